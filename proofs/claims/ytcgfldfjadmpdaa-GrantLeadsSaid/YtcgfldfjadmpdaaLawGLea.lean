/- The law GrantLeads, walked. -/
import Derived.Test.YtcgfldfjadmpdaaGraE
import Derived.Test.YtcgfldfjadmpdaaGraD
namespace Go.Proofs.Ytcgfldfjadmpdaa
open Go.RowKit Go.Sort

theorem untV_lead {x1 now want a : Int} (hx : 0 ≤ x1 ∧ x1 ≤ 274877906944) (hn : 0 ≤ now ∧ now ≤ 274877906944) (ha : 0 ≤ a ∧ a ≤ 274877906944) : 0 ≤ untV x1 now want a ∧ untV x1 now want a ≤ max now a + x1 ∧ untV x1 now want a ≤ 1099511627776 := by
  have h1 := aftV_range now want
  unfold untV
  rw [moV_id (a := now) (by omega) (by omega), moV_id (a := a) (by omega) (by omega)]
  have h2 : aftV (max now a) x1 = max now a + x1 := by unfold aftV addV moV limV; omega
  rw [h2]
  omega
theorem ls_same {x1 now want : Int} {m : LV} {cb : ByteArray} (hx : 0 ≤ x1 ∧ x1 ≤ 274877906944) (hn : 0 ≤ now ∧ now ≤ 274877906944) (ha : 0 ≤ m.acked ∧ m.acked ≤ 274877906944) (hu : 0 ≤ m.unt ∧ m.unt ≤ 549755813888) (h2 : m.bind = 2) (hc : m.cb = cb) :
    (lsV x1 m cb now want).bind = 2 ∧ (lsV x1 m cb now want).cb = cb ∧ (lsV x1 m cb now want).addr = m.addr ∧ (lsV x1 m cb now want).unt ≤ max m.unt (max now m.acked + x1) ∧ m.unt ≤ (lsV x1 m cb now want).unt ∧ (lsV x1 m cb now want).acked = m.acked ∧ (lsV x1 m cb now want).told = m.told ∧ 0 ≤ (lsV x1 m cb now want).unt ∧ (lsV x1 m cb now want).unt ≤ 1099511627776 := by
  have h := untV_lead (want := want) hx hn ha
  have hb : baseL m cb = m := by unfold baseL; rw [if_pos ⟨h2, hc⟩]
  unfold lsV
  rw [hb]
  simp only
  rw [moV_id (a := m.unt) (by omega) (by omega), moV_id (a := untV x1 now want m.acked) (by omega) (by omega)]
  exact ⟨h2, hc, trivial, by omega, by omega, trivial, trivial, by omega, by omega⟩
theorem ls_new {x1 now want : Int} {m : LV} {cb : ByteArray} (hx : 0 ≤ x1 ∧ x1 ≤ 274877906944) (hn : 0 ≤ now ∧ now ≤ 274877906944) (hne : ¬ (m.bind = 2 ∧ m.cb = cb)) :
    (lsV x1 m cb now want).bind = 2 ∧ (lsV x1 m cb now want).cb = cb ∧ (lsV x1 m cb now want).addr = m.addr ∧ (lsV x1 m cb now want).unt ≤ now + x1 ∧ 0 ≤ (lsV x1 m cb now want).unt ∧ (lsV x1 m cb now want).unt ≤ 1099511627776 := by
  have h := untV_lead (want := want) (a := 0) hx hn ⟨by omega, by omega⟩
  have hb : baseL m cb = ⟨m.addr, 2, cb.data.toList, 0, 0, 0, 0, m.ver⟩ := by unfold baseL; rw [if_neg hne]
  unfold lsV
  rw [hb]
  simp only
  rw [moV_id (a := 0) (by omega) (by omega), moV_id (a := untV x1 now want 0) (by omega) (by omega)]
  exact ⟨trivial, rfl, trivial, by omega, by omega, by omega⟩
theorem potV_ge {m : LV} {now want : Int} (h0 : 0 ≤ m.unt) (h1 : m.unt ≤ 1099511627776) : m.unt ≤ potV m now want := by
  unfold potV
  rw [moV_id h0 h1]
  omega

/-- Block g holds a case. -/
def CBx (w : World) (g : Nat) (cb : ByteArray) (now want : Int) : Prop := w.heap[g]? = some (.cells #[.string cb, .int .i64 now, .int .i64 want] 39 (0, 0))
abbrev cbox (cb : ByteArray) (now want : Int) : Obj := .cells #[.string cb, .int .i64 now, .int .i64 want] 39
theorem CBx.later {w w' : World} {g : Nat} {cb : ByteArray} {now want : Int} (h : CBx w g cb now want) (hb : Below w.heap.size w w') : CBx w' g cb now want := (hb.block g (Array.getElem?_eq_some_iff.1 h).1).trans h
theorem CBx.at_ {w : World} {g : Nat} {cb : ByteArray} {now want : Int} (h : CBx w g cb now want) (i : Nat) : w.cell? ⟨g, i, none⟩ = (#[.string cb, .int .i64 now, .int .i64 want] : Array Value)[i]? := cell_of_row w g i _ _ _ h
theorem CBx.all {w : World} {g : Nat} {cb : ByteArray} {now want : Int} (h : CBx w g cb now want) : w.cell? ⟨g, 0, none⟩ = some (.string cb) ∧ w.cell? ⟨g, 1, none⟩ = some (.int .i64 now) ∧ w.cell? ⟨g, 2, none⟩ = some (.int .i64 want) := ⟨h.at_ 0, h.at_ 1, h.at_ 2⟩
theorem CBx.allR {w : World} {g : Nat} {cb : ByteArray} {now want : Int} (h : CBx w g cb now want) : (∀ (d : Nat) (os : Array Obj), (grow (redrawn w d) os).cell? ⟨g, 0, none⟩ = some (.string cb)) ∧ (∀ (d : Nat) (os : Array Obj), (grow (redrawn w d) os).cell? ⟨g, 1, none⟩ = some (.int .i64 now)) ∧ (∀ (d : Nat) (os : Array Obj), (grow (redrawn w d) os).cell? ⟨g, 2, none⟩ = some (.int .i64 want)) :=
  ⟨cell_regrown h.all.1, cell_regrown h.all.2.1, cell_regrown h.all.2.2⟩
theorem cb_eq {a b : ByteArray} (h : a = b) : (a.toList == b.toList) = true := by subst h; simp
theorem cb_ne {a b : ByteArray} (h : a ≠ b) : (a.toList == b.toList) = false := by
  rw [beq_eq_false_iff_ne]
  intro e
  rw [ByteArray.toList_eq, ByteArray.toList_eq] at e
  exact h (ByteArray.ext (Array.toList_inj.1 e))

set_option maxRecDepth 100000 in
set_option maxHeartbeats 4000000 in
theorem law_gleads (x0 x1 x2 now want : Int) (m : LV) (cb : ByteArray) (w : World) : Calls Try.prog 5 #[r3v x0 x1 x2, m.v, .agg #[.string cb, .int .i64 now, .int .i64 want]] w fun e w' => e = .returned (.bool true) ∧ Below w.heap.size w w' := by
  have HA := Lib.hid (fun V => gawake_any V)
  have HR := Lib.hid (fun V => rules_any x0 x1 x2 V)
  have HS := Lib.hid (fun V => lease_any x0 x1 x2 now want m cb V)
  have HP := Lib.hid (fun q V => pot_any x0 x1 x2 now want q V)
  obtain ⟨w0, hw0⟩ : ∃ w0, w0 = ((w.alloc (r3box 22 x0 x1 x2)).alloc (lbox m)).alloc (cbox cb now want) := ⟨_, rfl⟩
  have HX : Hid (R3 22 w0 w.heap.size x0 x1 x2) := Lib.hid (by rw [hw0]; exact ((R3.new w _ x0 x1 x2).alloc _).alloc _)
  have HL : Hid (LBox w0 (w.heap.size + 1) m) := Lib.hid (by rw [hw0]; have h := LBox.new (w.alloc (r3box 22 x0 x1 x2)) m; rw [show (w.alloc (r3box 22 x0 x1 x2)).heap.size = w.heap.size + 1 by simp] at h; exact h.alloc _)
  have HY : Hid (CBx w0 (w.heap.size + 1 + 1) cb now want) := Lib.hid (by rw [hw0]; have h : CBx (((w.alloc (r3box 22 x0 x1 x2)).alloc (lbox m)).alloc (cbox cb now want)) ((w.alloc (r3box 22 x0 x1 x2)).alloc (lbox m)).heap.size cb now want := heap_alloc_new _ _; rw [show ((w.alloc (r3box 22 x0 x1 x2)).alloc (lbox m)).heap.size = w.heap.size + 1 + 1 by simp] at h; exact h)
  have HB : Hid (Below w.heap.size w w0) := Lib.hid (by rw [hw0]; exact (((Below.refl _ _).alloc (Nat.le_refl _) _).alloc (by simp) _).alloc (by simp; omega) _)
  have HW0 := Lib.hid hw0
  clear hw0
  go_enter Try.func5, Try.ntmps5
  go_upto_region 1 with fail
  rw [← HW0.out]
  go_wp2_with fail
  refine (HA.out _).mono ?_
  rintro e w1 ⟨rfl, hb1⟩
  have HX1 := Lib.hid (HX.out.later hb1)
  have HY1 := Lib.hid (HY.out.later hb1)
  have HL1 := Lib.hid (HL.out.later hb1)
  have HB1 := Lib.hid (HB.out.trans (hb1.mono HB.out.size))
  clear hb1
  obtain ⟨c0, c1, c2⟩ := HX1.out.all
  go_wp2_with fail
  refine (HR.out _).mono ?_
  rintro e w2 ⟨rfl, hb2⟩
  have HX2 := Lib.hid (HX1.out.later hb2)
  have HY2 := Lib.hid (HY1.out.later hb2)
  have HL2 := Lib.hid (HL1.out.later hb2)
  have HB2 := Lib.hid (HB1.out.trans (hb2.mono HB1.out.size))
  clear hb2 c0 c1 c2
  go_upto_region 3 with fail
  rw [← layR_eq]
  have HG := Lib.hid (layR_G w2 x0 x1 x2)
  have HX3 := Lib.hid (HX2.out.later (layR_low w2 x0 x1 x2))
  have HY3 := Lib.hid (HY2.out.later (layR_low w2 x0 x1 x2))
  have HL3 := Lib.hid (HL2.out.later (layR_low w2 x0 x1 x2))
  have HB3 := Lib.hid (HB2.out.trans ((layR_low w2 x0 x1 x2).mono HB2.out.size))
  obtain ⟨g, hg⟩ : ∃ g, g = w2.heap.size := ⟨_, rfl⟩
  rw [← hg] at HG ⊢
  generalize layR w2 x0 x1 x2 = w3 at HG HX3 HY3 HL3 HB3 ⊢
  clear hg HB1 HB2 HX HY HX1 HY1 HX2 HY2 HL HL1 HL2 HW0 HB HA HR
  obtain ⟨c0, c1, c2⟩ := HX3.out.all
  obtain ⟨d0, d1, d2⟩ := HY3.out.all
  obtain ⟨l0, l1, l2, l3, l4, l5, l6, l7⟩ := HL3.out.all
  by_cases hok : 0 ≤ x1 ∧ x1 ≤ 274877906944 ∧ 0 ≤ now ∧ now ≤ 274877906944 ∧ 0 ≤ m.acked ∧ m.acked ≤ 274877906944 ∧ 0 ≤ m.unt ∧ m.unt ≤ 549755813888
  · obtain ⟨p1, p2, p3, p4, p5, p6, p7, p8⟩ := hok
    have HSM : Hid (m.bind = 2 → m.cb = cb → _) := Lib.hid (fun h2 hc => ls_same (want := want) ⟨p1, p2⟩ ⟨p3, p4⟩ ⟨p5, p6⟩ ⟨p7, p8⟩ h2 hc)
    have HNW := Lib.hid (fun hne => ls_new (want := want) (m := m) (cb := cb) ⟨p1, p2⟩ ⟨p3, p4⟩ hne)
    have t0 : decide (x1 < 0) = false := by simp; omega
    have t1 : decide (274877906944 < x1) = false := by simp; omega
    have t2 : decide (now < 0) = false := by simp; omega
    have t3 : decide (274877906944 < now) = false := by simp; omega
    have t4 : decide (m.acked < 0) = false := by simp; omega
    have t5 : decide (274877906944 < m.acked) = false := by simp; omega
    have t6 : decide (m.unt < 0) = false := by simp; omega
    have t7 : decide (549755813888 < m.unt) = false := by simp; omega
    generalize lsV x1 m cb now want = q at *
    obtain ⟨g0, g1, g2⟩ := HG.out.all
    go_wp2_with fail
    refine (HS.out _).mono ?_
    rintro e w4 ⟨rfl, hb4⟩
    have HG4 := Lib.hid (HG.out.later hb4)
    have HX4 := Lib.hid (HX3.out.later hb4)
    have HY4 := Lib.hid (HY3.out.later hb4)
    have HL4 := Lib.hid (HL3.out.later hb4)
    have HB4 := Lib.hid (HB3.out.trans (hb4.mono HB3.out.size))
    clear hb4 c0 c1 c2 d0 d1 d2 l0 l1 l2 l3 l4 l5 l6 l7 g0 g1 g2 t0 t1 t2 t3 t4 t5 t6 t7 HB3 HX3 HY3 HL3 HG
    go_upto_region 6 with fail
    have HQ := Lib.hid (LBox.new w4 q)
    have hbq : Below w4.heap.size w4 (w4.alloc (lbox q)) := (Below.refl _ _).alloc (Nat.le_refl _) _
    have HG5 := Lib.hid (HG4.out.later hbq)
    have HX5 := Lib.hid (HX4.out.later hbq)
    have HY5 := Lib.hid (HY4.out.later hbq)
    have HL5 := Lib.hid (HL4.out.later hbq)
    have HB5 := Lib.hid (HB4.out.trans (hbq.mono HB4.out.size))
    clear hbq
    obtain ⟨k, hk⟩ : ∃ k, k = w4.heap.size := ⟨_, rfl⟩
    rw [← hk] at HQ ⊢
    generalize w4.alloc (lbox q) = w5 at HQ HX5 HY5 HL5 HG5 HB5 ⊢
    clear hk HG4 HX4 HY4 HL4 HB4 HS
    have CP := Lib.hid (qb (fun V => HP.out q V) w5)
    have hpv : Hid (0 ≤ q.unt → q.unt ≤ 1099511627776 → q.unt ≤ potV q now want) := Lib.hid potV_ge
    generalize potV q now want = pv at *
    obtain ⟨c0, c1, c2⟩ := HX5.out.all
    obtain ⟨d0, d1, d2⟩ := HY5.out.all
    obtain ⟨l0, l1, l2, l3, l4, l5, l6, l7⟩ := HL5.out.all
    by_cases hsm : m.bind = 2 ∧ m.cb = cb
    · obtain ⟨h2, hc⟩ := hsm
      obtain ⟨v1, v2, v3, v4, v5, v6, v7, v8, v9⟩ := HSM.out h2 hc
      obtain ⟨M, hM⟩ : ∃ M, M = max now m.acked := ⟨_, rfl⟩
      rw [← hM] at v4
      obtain ⟨N, hN⟩ : ∃ N, N = max m.unt (M + x1) := ⟨_, rfl⟩
      rw [← hN] at v4
      have hM' : (if now < m.acked then m.acked else now) = M := by rw [hM, max_if]
      have hN' : (if m.unt < M + x1 then M + x1 else m.unt) = N := by rw [hN, max_if]
      have M0 : 0 ≤ M := by omega
      have M1 : M ≤ 274877906944 := by omega
      have s1 : (m.bind == 2) = true := by simpa using h2
      have s2 := cb_eq hc
      have f1 : (q.bind == 2) = true := by simpa using v1
      have f2 := cb_eq v2
      have f3 : ((q.addr : Int) == (m.addr : Int)) = true := by rw [v3]; simp
      have f4 : decide (q.unt ≤ N) = true := decide_eq_true v4
      have f5 : decide (m.unt ≤ q.unt) = true := decide_eq_true v5
      have f6 : (q.acked == m.acked) = true := by simpa using v6
      have f7 : (q.told == m.told) = true := by simpa using v7
      have f8 : decide (q.unt ≤ pv) = true := decide_eq_true (hpv.out v8 v9)
      clear h2 hc v1 v2 v3 v4 v5 v6 v7 v8 v9 hM hN
      go_upto_region 10 with fail
      clear c0 c1 c2 d0 d1 d2 l0 l1 l2 l3 l4 l5 l6 l7
      obtain ⟨g0, g1, g2⟩ := HG5.out.allR
      obtain ⟨d0, d1, d2⟩ := HY5.out.allR
      obtain ⟨l0, l1, l2, l3, l4, l5, l6, l7⟩ := HL5.out.allR
      obtain ⟨r0, r1, r2, r3, r4, r5, r6, r7⟩ := HQ.out.allR
      refine wp_region_quiet_below (by kernel_rfl) (by kernel_rfl) ?_
      repeat (go_big_quiet_step (with_reducible exact CP.out _ _))
      refine wpQuiet_nil ?_
      intro _ hw'
      obtain ⟨⟨dq, osq⟩, hw''⟩ := hw'
      subst hw''
      go_wp2
      go_ret
      exact ⟨rfl, HB5.out.trans ((below_regrown w5 dq osq).mono HB5.out.size)⟩
    · obtain ⟨v1, v2, v3, v4, v8, v9⟩ := HNW.out hsm
      have f1 : (q.bind == 2) = true := by simpa using v1
      have f2 := cb_eq v2
      have f3 : ((q.addr : Int) == (m.addr : Int)) = true := by rw [v3]; simp
      have f4 : decide (q.unt ≤ now + x1) = true := decide_eq_true v4
      have f8 : decide (q.unt ≤ pv) = true := decide_eq_true (hpv.out v8 v9)
      have hor : (m.bind == 2) = false ∨ ((m.bind == 2) = true ∧ (m.cb.toList == cb.toList) = false) := by
        by_cases h2 : m.bind = 2
        · exact .inr ⟨by simpa using h2, cb_ne fun hc => hsm ⟨h2, hc⟩⟩
        · exact .inl (by simpa using h2)
      clear hsm v1 v2 v3 v4 v8 v9
      rcases hor with s1 | ⟨s1, s2⟩
      · go_upto_region 10 with fail
        clear c0 c1 c2 d0 d1 d2 l0 l1 l2 l3 l4 l5 l6 l7
        obtain ⟨g0, g1, g2⟩ := HG5.out.allR
        obtain ⟨d0, d1, d2⟩ := HY5.out.allR
        obtain ⟨l0, l1, l2, l3, l4, l5, l6, l7⟩ := HL5.out.allR
        obtain ⟨r0, r1, r2, r3, r4, r5, r6, r7⟩ := HQ.out.allR
        refine wp_region_quiet_below (by kernel_rfl) (by kernel_rfl) ?_
        repeat (go_big_quiet_step (with_reducible exact CP.out _ _))
        refine wpQuiet_nil ?_
        intro _ hw'
        obtain ⟨⟨dq, osq⟩, hw''⟩ := hw'
        subst hw''
        go_wp2
        go_ret
        exact ⟨rfl, HB5.out.trans ((below_regrown w5 dq osq).mono HB5.out.size)⟩
      · go_upto_region 10 with fail
        clear c0 c1 c2 d0 d1 d2 l0 l1 l2 l3 l4 l5 l6 l7
        obtain ⟨g0, g1, g2⟩ := HG5.out.allR
        obtain ⟨d0, d1, d2⟩ := HY5.out.allR
        obtain ⟨l0, l1, l2, l3, l4, l5, l6, l7⟩ := HL5.out.allR
        obtain ⟨r0, r1, r2, r3, r4, r5, r6, r7⟩ := HQ.out.allR
        refine wp_region_quiet_below (by kernel_rfl) (by kernel_rfl) ?_
        repeat (go_big_quiet_step (with_reducible exact CP.out _ _))
        refine wpQuiet_nil ?_
        intro _ hw'
        obtain ⟨⟨dq, osq⟩, hw''⟩ := hw'
        subst hw''
        go_wp2
        go_ret
        exact ⟨rfl, HB5.out.trans ((below_regrown w5 dq osq).mono HB5.out.size)⟩
  · have HNO := Lib.hid hok
    clear hok
    cases t0 : decide (x1 < 0)
    rotate_left
    · go_wp2
      go_ret
      exact ⟨rfl, HB3.out⟩
    cases t1 : decide (274877906944 < x1)
    rotate_left
    · go_wp2
      go_ret
      exact ⟨rfl, HB3.out⟩
    cases t2 : decide (now < 0)
    rotate_left
    · go_wp2
      go_ret
      exact ⟨rfl, HB3.out⟩
    cases t3 : decide (274877906944 < now)
    rotate_left
    · go_wp2
      go_ret
      exact ⟨rfl, HB3.out⟩
    cases t4 : decide (m.acked < 0)
    rotate_left
    · go_wp2
      go_ret
      exact ⟨rfl, HB3.out⟩
    cases t5 : decide (274877906944 < m.acked)
    rotate_left
    · go_wp2
      go_ret
      exact ⟨rfl, HB3.out⟩
    cases t6 : decide (m.unt < 0)
    rotate_left
    · go_wp2
      go_ret
      exact ⟨rfl, HB3.out⟩
    cases t7 : decide (549755813888 < m.unt)
    rotate_left
    · go_wp2
      go_ret
      exact ⟨rfl, HB3.out⟩
    exact absurd (by simp only [decide_eq_false_iff_not] at t0 t1 t2 t3 t4 t5 t6 t7; omega) HNO.out
end Go.Proofs.Ytcgfldfjadmpdaa
