/- The law ResolveKeeps, walked. -/
import Derived.Test.YtlbgkpkfjaggkaaResV
namespace Go.Proofs.Ytlbgkpkfjaggkaa
open Go.RowKit Go.Sort
attribute [local go_sem ↓] run_eqlL run_neqL run_guardL

set_option maxRecDepth 100000 in
set_option maxHeartbeats 4000000 in
theorem law_rkeeps (l : LV) (m : MsgV) (s now g : Int) (w : World) : Calls Try.prog 4 #[l.v, m.v, r3v s now g] w fun e w' => e = .returned (.bool true) ∧ Below w.heap.size w w' := by
  have HA := Lib.hid (fun V => reawake_any V)
  have HT := Lib.hid (fun V => take_any l m s now g V)
  have HP := Lib.hid (fun V => rpast_any now l.unt 0 V)
  have HRV : Hid (takeV l m s now g = tkV l m (pastV now l.unt 0) (recB s) (relB l m g)) := Lib.hid rfl
  generalize recB s = rc at *
  generalize relB l m g = rel at *
  generalize pastV now l.unt 0 = ov at *
  obtain ⟨r, hr⟩ : ∃ r, r = takeV l m s now g := ⟨_, rfl⟩
  rw [← hr] at HT HRV
  clear hr
  obtain ⟨q, z⟩ := r
  obtain ⟨w0, hw0⟩ : ∃ w0, w0 = ((w.alloc (lbox l)).alloc (mbox m)).alloc (r3box 29 s now g) := ⟨_, rfl⟩
  have HL : Hid (LBox w0 w.heap.size l) := Lib.hid (by rw [hw0]; exact ((LBox.new w l).alloc _).alloc _)
  have HM : Hid (MBox w0 (w.heap.size + 1) m) := Lib.hid (by rw [hw0]; have h := MBox.new (w.alloc (lbox l)) m; rw [show (w.alloc (lbox l)).heap.size = w.heap.size + 1 by simp] at h; exact h.alloc _)
  have HC : Hid (R3 29 w0 (w.heap.size + 1 + 1) s now g) := Lib.hid (by rw [hw0]; have h := R3.new ((w.alloc (lbox l)).alloc (mbox m)) 29 s now g; rw [show ((w.alloc (lbox l)).alloc (mbox m)).heap.size = w.heap.size + 1 + 1 by simp] at h; exact h)
  have HB : Hid (Below w.heap.size w w0) := Lib.hid (by rw [hw0]; exact (((Below.refl _ _).alloc (Nat.le_refl _) _).alloc (by simp) _).alloc (by simp; omega) _)
  have HW0 := Lib.hid hw0
  clear hw0
  go_enter Try.func4, Try.ntmps4
  go_upto_region 1 with fail
  rw [← HW0.out]
  go_wp2_with fail
  refine (HA.out _).mono ?_
  rintro e w1 ⟨rfl, hb1⟩
  have HL1 := Lib.hid (HL.out.later hb1)
  have HM1 := Lib.hid (HM.out.later hb1)
  have HC1 := Lib.hid (HC.out.later hb1)
  have HB1 := Lib.hid (HB.out.trans (hb1.mono HB.out.size))
  clear hb1 HL HM HC HB
  obtain ⟨c0, c1, c2, c3, c4, c5, c6, c7⟩ := HL1.out.all
  obtain ⟨m0, m1, m2, m3, m4, m5, m6, m7, m8, m9, m10⟩ := HM1.out.all
  obtain ⟨a0, a1, a2⟩ := HC1.out.all
  go_wp2_with fail
  refine (HT.out _).mono ?_
  rintro e w2 ⟨rfl, hb1⟩
  have HL2 := Lib.hid (HL1.out.later hb1)
  have HM2 := Lib.hid (HM1.out.later hb1)
  have HC2 := Lib.hid (HC1.out.later hb1)
  have HB2 := Lib.hid (HB1.out.trans (hb1.mono HB1.out.size))
  clear hb1 HL1 HM1 HC1 HB1
  clear c0 c1 c2 c3 c4 c5 c6 c7
  clear m0 m1 m2 m3 m4 m5 m6 m7 m8 m9 m10
  clear a0 a1 a2
  obtain ⟨w3, hw⟩ : ∃ w3, w3 = w2.alloc (lbox q) := ⟨_, rfl⟩
  have HL3 := Lib.hid (HL2.out.alloc (lbox q))
  rw [← hw] at HL3
  have HM3 := Lib.hid (HM2.out.alloc (lbox q))
  rw [← hw] at HM3
  have HC3 := Lib.hid (HC2.out.alloc (lbox q))
  rw [← hw] at HC3
  have HX3 := Lib.hid (LBox.new w2 q)
  rw [← hw] at HX3
  have HB3 := Lib.hid (HB2.out.alloc HB2.out.size (lbox q))
  rw [← hw] at HB3
  have HWA := Lib.hid hw
  clear hw HL2 HM2 HC2 HB2
  go_upto_region 3 with fail
  rw [← HWA.out]
  generalize w2.heap.size = gx at *
  clear HWA
  obtain ⟨c0, c1, c2, c3, c4, c5, c6, c7⟩ := HL3.out.all
  obtain ⟨m0, m1, m2, m3, m4, m5, m6, m7, m8, m9, m10⟩ := HM3.out.all
  obtain ⟨a0, a1, a2⟩ := HC3.out.all
  obtain ⟨x0, x1, x2, x3, x4, x5, x6, x7⟩ := HX3.out.all
  cases z
  · have hself : eqL (q.addr : Int) q.bind q.cb q.unt q.acked q.told q.at_ q.ver (l.addr : Int) l.bind l.cb l.unt l.acked l.told l.at_ l.ver = true := by
      have h := HRV.out
      have h2 := tk_no (l := l) (m := m) (ov := ov) (rc := rc) (rel := rel) (by rw [← h])
      rw [← h] at h2
      rw [eqL_of]
      exact decide_eq_true h2
    go_wp2
    go_ret
    exact ⟨rfl, HB3.out⟩
  go_wp2_with fail
  refine (HP.out _).mono ?_
  rintro e w' ⟨rfl, rfl⟩
  cases t1 : (l.bind != 2)
  rotate_left
  · go_wp2
    go_ret
    exact ⟨rfl, HB3.out⟩
  cases ov
  rotate_left
  · go_wp2
    go_ret
    exact ⟨rfl, HB3.out⟩
  cases t4 : (m.bind == 4)
  rotate_left
  · go_wp2
    go_ret
    exact ⟨rfl, HB3.out⟩
  cases t5 : (m.bind == 5)
  rotate_left
  · go_wp2
    go_ret
    exact ⟨rfl, HB3.out⟩
  obtain ⟨k1, k2, k3, k4, k5⟩ : (q.bind == 2) = true ∧ (q.cb.toList == l.cb.toList) = true ∧ (q.unt == l.unt) = true ∧ (q.acked == l.acked) = true ∧ decide (l.told ≤ q.told) = true := by
    have h := HRV.out
    obtain ⟨e1, e2, e3, e4, e5⟩ := tk_keeps (l := l) (m := m) (rc := rc) (rel := rel) (by rw [← h]) (by simpa using t1) (by simpa using t4) (by simpa using t5)
    rw [← h] at e1 e2 e3 e4 e5
    exact ⟨by simpa using e1, cb_eq e2, by simpa using e3, by simpa using e4, decide_eq_true e5⟩
  go_wp2
  go_ret
  exact ⟨rfl, HB3.out⟩
end Go.Proofs.Ytlbgkpkfjaggkaa
