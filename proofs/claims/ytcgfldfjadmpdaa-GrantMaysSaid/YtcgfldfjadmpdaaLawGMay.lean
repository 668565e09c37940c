/- The law GrantMays, walked. -/
import Derived.Test.YtcgfldfjadmpdaaGraE
import Derived.Test.YtcgfldfjadmpdaaGraC
namespace Go.Proofs.Ytcgfldfjadmpdaa
open Go.RowKit Go.Sort

set_option maxRecDepth 100000 in
set_option maxHeartbeats 2000000 in
theorem law_gmays (x0 x1 x2 y0 y1 y2 : Int) (m : LV) (w : World) : Calls Try.prog 4 #[r3v x0 x1 x2, m.v, r3v y0 y1 y2] w fun e w' => e = .returned (.bool true) ∧ Below w.heap.size w w' := by
  have HA := Lib.hid (fun V => gawake_any V)
  have HR := Lib.hid (fun V => rules_any x0 x1 x2 V)
  obtain ⟨w0, hw0⟩ : ∃ w0, w0 = ((w.alloc (r3box 22 x0 x1 x2)).alloc (lbox m)).alloc (r3box 22 y0 y1 y2) := ⟨_, rfl⟩
  have HX : Hid (R3 22 w0 w.heap.size x0 x1 x2) := Lib.hid (by rw [hw0]; exact ((R3.new w _ x0 x1 x2).alloc _).alloc _)
  have HL : Hid (LBox w0 (w.heap.size + 1) m) := Lib.hid (by rw [hw0]; have h := LBox.new (w.alloc (r3box 22 x0 x1 x2)) m; rw [show (w.alloc (r3box 22 x0 x1 x2)).heap.size = w.heap.size + 1 by simp] at h; exact h.alloc _)
  have HY : Hid (R3 22 w0 (w.heap.size + 1 + 1) y0 y1 y2) := Lib.hid (by rw [hw0]; have h := R3.new ((w.alloc (r3box 22 x0 x1 x2)).alloc (lbox m)) 22 y0 y1 y2; rw [show ((w.alloc (r3box 22 x0 x1 x2)).alloc (lbox m)).heap.size = w.heap.size + 1 + 1 by simp] at h; exact h)
  have HB : Hid (Below w.heap.size w w0) := Lib.hid (by rw [hw0]; exact (((Below.refl _ _).alloc (Nat.le_refl _) _).alloc (by simp) _).alloc (by simp; omega) _)
  have HW0 := Lib.hid hw0
  clear hw0
  go_enter Try.func4, Try.ntmps4
  go_upto_region 1 with fail
  rw [← HW0.out]
  go_wp2_with fail
  refine (HA.out _).mono ?_
  rintro e w1 ⟨rfl, hb1⟩
  have HX1 := Lib.hid (HX.out.later hb1)
  have HY1 := Lib.hid (HY.out.later hb1)
  have HL1 := Lib.hid (HL.out.later hb1)
  have HB1 := Lib.hid (HB.out.trans (hb1.mono HB.out.size))
  clear hb1
  obtain ⟨c0, c1, c2⟩ := HX1.out.all
  go_wp2_with fail
  refine (HR.out _).mono ?_
  rintro e w2 ⟨rfl, hb2⟩
  have HX2 := Lib.hid (HX1.out.later hb2)
  have HY2 := Lib.hid (HY1.out.later hb2)
  have HL2 := Lib.hid (HL1.out.later hb2)
  have HB2 := Lib.hid (HB1.out.trans (hb2.mono HB1.out.size))
  clear hb2 c0 c1 c2
  go_upto_region 3 with fail
  rw [← layR_eq]
  have HG := Lib.hid (layR_G w2 x0 x1 x2)
  have HK := Lib.hid (layR_K w2 x0 x1 x2)
  have HX3 := Lib.hid (HX2.out.later (layR_low w2 x0 x1 x2))
  have HY3 := Lib.hid (HY2.out.later (layR_low w2 x0 x1 x2))
  have HL3 := Lib.hid (HL2.out.later (layR_low w2 x0 x1 x2))
  have HB3 := Lib.hid (HB2.out.trans ((layR_low w2 x0 x1 x2).mono HB2.out.size))
  obtain ⟨g, hg⟩ : ∃ g, g = w2.heap.size := ⟨_, rfl⟩
  rw [← hg] at HG HK ⊢
  generalize layR w2 x0 x1 x2 = w3 at HG HK HX3 HY3 HL3 HB3 ⊢
  clear hg HB1 HB2 HX HY HX1 HY1 HX2 HY2 HL HL1 HL2 HW0 HB
  have C1 := Lib.hid (qb (fun V => may_any x0 x1 x2 y0 y1 y2 m V) w3)
  have C2 := Lib.hid (qb (fun V => rmay_any x0 x1 x2 y0 y1 y2 m V) w3)
  generalize mayV x0 x1 x2 m y0 y1 y2 = u at *
  have s1 : (u == u) = true := by simp
  obtain ⟨l0, l1, l2, l3, l4, l5, l6, l7⟩ := HL3.out.allR
  obtain ⟨a0, a1, a2⟩ := HY3.out.allR
  obtain ⟨g0, g1, g2⟩ := HG.out.allR
  obtain ⟨k0, k1, k2⟩ := HK.out.allR
  refine wp_region_quiet_below (by kernel_rfl) (by kernel_rfl) ?_
  repeat (go_big_quiet_step (first | with_reducible exact C1.out _ _ | with_reducible exact C2.out _ _))
  refine wpQuiet_nil ?_
  intro _ hw'
  obtain ⟨⟨dq, osq⟩, hw''⟩ := hw'
  subst hw''
  go_wp2
  go_ret
  exact ⟨rfl, HB3.out.trans ((below_regrown w3 dq osq).mono HB3.out.size)⟩
end Go.Proofs.Ytcgfldfjadmpdaa
