/- The law ResolveTakes, walked. -/
import Derived.Test.YtlbgkpkfjaggkaaResV
namespace Go.Proofs.Ytlbgkpkfjaggkaa
open Go.RowKit Go.Sort
attribute [local go_sem ↓] run_eqlL run_neqL run_guardL

set_option maxRecDepth 100000 in
set_option maxHeartbeats 4000000 in
theorem law_rtakes (l : LV) (m : MsgV) (s now g : Int) (w : World) : Calls Try.prog 3 #[l.v, m.v, r3v s now g] w fun e w' => e = .returned (.bool true) ∧ Below w.heap.size w w' := by
  have HA := Lib.hid (fun V => reawake_any V)
  have HT := Lib.hid (fun V => take_any l m s now g V)
  have HR := Lib.hid (fun V => rtake_any l m s now g V)
  generalize takeV l m s now g = r at *
  obtain ⟨w0, hw0⟩ : ∃ w0, w0 = ((w.alloc (lbox l)).alloc (mbox m)).alloc (r3box 29 s now g) := ⟨_, rfl⟩
  have HL : Hid (LBox w0 w.heap.size l) := Lib.hid (by rw [hw0]; exact ((LBox.new w l).alloc _).alloc _)
  have HM : Hid (MBox w0 (w.heap.size + 1) m) := Lib.hid (by rw [hw0]; have h := MBox.new (w.alloc (lbox l)) m; rw [show (w.alloc (lbox l)).heap.size = w.heap.size + 1 by simp] at h; exact h.alloc _)
  have HC : Hid (R3 29 w0 (w.heap.size + 1 + 1) s now g) := Lib.hid (by rw [hw0]; have h := R3.new ((w.alloc (lbox l)).alloc (mbox m)) 29 s now g; rw [show ((w.alloc (lbox l)).alloc (mbox m)).heap.size = w.heap.size + 1 + 1 by simp] at h; exact h)
  have HB : Hid (Below w.heap.size w w0) := Lib.hid (by rw [hw0]; exact (((Below.refl _ _).alloc (Nat.le_refl _) _).alloc (by simp) _).alloc (by simp; omega) _)
  have HW0 := Lib.hid hw0
  clear hw0
  go_enter Try.func3, Try.ntmps3
  go_upto_region 1 with fail
  rw [← HW0.out]
  go_wp2_with fail
  refine (HA.out _).mono ?_
  rintro e w1 ⟨rfl, hb1⟩
  have HL1 := Lib.hid (HL.out.later hb1)
  have HM1 := Lib.hid (HM.out.later hb1)
  have HC1 := Lib.hid (HC.out.later hb1)
  have HB1 := Lib.hid (HB.out.trans (hb1.mono HB.out.size))
  clear hb1 HL HM HC HB
  obtain ⟨c0, c1, c2, c3, c4, c5, c6, c7⟩ := HL1.out.all
  obtain ⟨m0, m1, m2, m3, m4, m5, m6, m7, m8, m9, m10⟩ := HM1.out.all
  obtain ⟨a0, a1, a2⟩ := HC1.out.all
  go_wp2_with fail
  refine (HT.out _).mono ?_
  rintro e w2 ⟨rfl, hb1⟩
  have HL2 := Lib.hid (HL1.out.later hb1)
  have HM2 := Lib.hid (HM1.out.later hb1)
  have HC2 := Lib.hid (HC1.out.later hb1)
  have HB2 := Lib.hid (HB1.out.trans (hb1.mono HB1.out.size))
  clear hb1 HL1 HM1 HC1 HB1
  clear c0 c1 c2 c3 c4 c5 c6 c7
  clear m0 m1 m2 m3 m4 m5 m6 m7 m8 m9 m10
  clear a0 a1 a2
  obtain ⟨w3, hw⟩ : ∃ w3, w3 = w2.alloc (lbox r.1) := ⟨_, rfl⟩
  have HL3 := Lib.hid (HL2.out.alloc (lbox r.1))
  rw [← hw] at HL3
  have HM3 := Lib.hid (HM2.out.alloc (lbox r.1))
  rw [← hw] at HM3
  have HC3 := Lib.hid (HC2.out.alloc (lbox r.1))
  rw [← hw] at HC3
  have HX3 := Lib.hid (LBox.new w2 r.1)
  rw [← hw] at HX3
  have HB3 := Lib.hid (HB2.out.alloc HB2.out.size (lbox r.1))
  rw [← hw] at HB3
  have HWA := Lib.hid hw
  clear hw HL2 HM2 HC2 HB2
  go_upto_region 3 with fail
  rw [← HWA.out]
  generalize w2.heap.size = gx at *
  clear HWA
  obtain ⟨c0, c1, c2, c3, c4, c5, c6, c7⟩ := HL3.out.all
  obtain ⟨m0, m1, m2, m3, m4, m5, m6, m7, m8, m9, m10⟩ := HM3.out.all
  obtain ⟨a0, a1, a2⟩ := HC3.out.all
  go_wp2_with fail
  refine (HR.out _).mono ?_
  rintro e w4 ⟨rfl, hb1⟩
  have HL4 := Lib.hid (HL3.out.later hb1)
  have HM4 := Lib.hid (HM3.out.later hb1)
  have HC4 := Lib.hid (HC3.out.later hb1)
  have HX4 := Lib.hid (HX3.out.later hb1)
  have HB4 := Lib.hid (HB3.out.trans (hb1.mono HB3.out.size))
  clear hb1 HL3 HM3 HC3 HX3 HB3
  clear c0 c1 c2 c3 c4 c5 c6 c7
  clear m0 m1 m2 m3 m4 m5 m6 m7 m8 m9 m10
  clear a0 a1 a2
  obtain ⟨w5, hw⟩ : ∃ w5, w5 = w4.alloc (lbox r.1) := ⟨_, rfl⟩
  have HL5 := Lib.hid (HL4.out.alloc (lbox r.1))
  rw [← hw] at HL5
  have HM5 := Lib.hid (HM4.out.alloc (lbox r.1))
  rw [← hw] at HM5
  have HC5 := Lib.hid (HC4.out.alloc (lbox r.1))
  rw [← hw] at HC5
  have HX5 := Lib.hid (HX4.out.alloc (lbox r.1))
  rw [← hw] at HX5
  have HY5 := Lib.hid (LBox.new w4 r.1)
  rw [← hw] at HY5
  have HB5 := Lib.hid (HB4.out.alloc HB4.out.size (lbox r.1))
  rw [← hw] at HB5
  have HWA := Lib.hid hw
  clear hw HL4 HM4 HC4 HX4 HB4
  go_upto_region 4 with fail
  rw [← HWA.out]
  generalize w4.heap.size = gy at *
  clear HWA
  obtain ⟨x0, x1, x2, x3, x4, x5, x6, x7⟩ := HX5.out.all
  obtain ⟨y0, y1, y2, y3, y4, y5, y6, y7⟩ := HY5.out.all
  have hself : eqL (r.1.addr : Int) r.1.bind r.1.cb r.1.unt r.1.acked r.1.told r.1.at_ r.1.ver (r.1.addr : Int) r.1.bind r.1.cb r.1.unt r.1.acked r.1.told r.1.at_ r.1.ver = true := by rw [eqL_of]; simp
  have hs2 : (r.2 == r.2) = true := by simp
  go_wp2
  go_ret
  exact ⟨rfl, HB5.out⟩
end Go.Proofs.Ytlbgkpkfjaggkaa
