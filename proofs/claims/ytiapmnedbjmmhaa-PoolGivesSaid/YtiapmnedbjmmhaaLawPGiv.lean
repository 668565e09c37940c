/- The law PoolGives, walked. -/
import Derived.Test.YtiapmnedbjmmhaaPooK
import Derived.Test.YtiapmnedbjmmhaaTriM
namespace Go.Proofs.Ytiapmnedbjmmhaa
open Go.RowKit Go.Sort Flo
attribute [local go_sem] run_store_flt

set_option maxRecDepth 100000 in
set_option maxHeartbeats 4000000 in
theorem law_pgives (K : PoolK) (p s : Nat) (id y0 y1 : Int) (w : World) : Calls Try.prog 3 #[f2v p s, .int .i64 id, r2v y0 y1] w fun e w' => e = .returned (.bool true) ∧ Below w.heap.size w w' := by
  have HA := Lib.hid (fun V => pawake_any K V)
  have HP := Lib.hid (fun V => plans_any p s V)
  have HG := Lib.hid (fun V => K.giv p s id y0 y1 V)
  have HR := Lib.hid (fun V => rgives_any p s id y0 y1 V)
  clear K
  generalize givV p s id y0 y1 = r at *
  obtain ⟨w0, hw0⟩ : ∃ w0, w0 = (w.alloc (f2box 23 p s)).alloc (r2box 24 y0 y1) := ⟨_, rfl⟩
  have HX : Hid (F2 23 w0 w.heap.size p s) := Lib.hid (by rw [hw0]; exact (F2.new w _ p s).alloc _)
  have HY : Hid (R2 24 w0 (w.heap.size + 1) y0 y1) := Lib.hid (by rw [hw0]; have h := R2.new (w.alloc (f2box 23 p s)) 24 y0 y1; rw [show (w.alloc (f2box 23 p s)).heap.size = w.heap.size + 1 by simp] at h; exact h)
  have HB : Hid (Below w.heap.size w w0) := Lib.hid (by rw [hw0]; exact ((Below.refl _ _).alloc (Nat.le_refl _) _).alloc (by simp) _)
  have HW0 := Lib.hid hw0
  clear hw0
  go_enter Try.func3, Try.ntmps3
  go_upto_region 1 with fail
  rw [← HW0.out]
  go_wp2_with fail
  refine (HA.out _).mono ?_
  rintro e w1 ⟨rfl, hb1⟩
  have HX1 := Lib.hid (HX.out.later hb1)
  have HY1 := Lib.hid (HY.out.later hb1)
  have HB1 := Lib.hid (HB.out.trans (hb1.mono HB.out.size))
  clear hb1 HX HY HB
  have x0 := HX1.out.c0
  have x1 := HX1.out.c1
  go_wp2_with fail
  refine (HP.out _).mono ?_
  rintro e w2 ⟨rfl, hb1⟩
  have HX2 := Lib.hid (HX1.out.later hb1)
  have HY2 := Lib.hid (HY1.out.later hb1)
  have HB2 := Lib.hid (HB1.out.trans (hb1.mono HB1.out.size))
  clear hb1 HX1 HY1 HB1
  clear x0 x1
  obtain ⟨w3, hw, hpa, hpd, hpb⟩ := layP_facts w2 p s
  have HX3 := Lib.hid (HX2.out.later hpb)
  have HY3 := Lib.hid (HY2.out.later hpb)
  have HB3 := Lib.hid (HB2.out.trans (hpb.mono HB2.out.size))
  have HPA3 := Lib.hid hpa
  have HPD3 := Lib.hid hpd
  have HWA := Lib.hid hw
  clear hw hpa hpd hpb HX2 HY2 HB2
  go_upto_region 3 with fail
  rw [← HWA.out]
  generalize w2.heap.size = gp at *
  clear HWA
  have C1 := Lib.hid (qbk HG.out w3)
  have C2 := Lib.hid (qbk HR.out w3)
  have y0r := cell_regrown HY3.out.c0
  have y1r := cell_regrown HY3.out.c1
  obtain ⟨a0, a1⟩ := HPA3.out.allR
  obtain ⟨d0, d1⟩ := HPD3.out.allR
  have hs2 : (r == r) = true := by simp
  refine wp_region_quiet_below (by kernel_rfl) (by kernel_rfl) ?_
  repeat (go_big_quiet_step (first | with_reducible exact C1.out _ _ | with_reducible exact C2.out _ _))
  refine wpQuiet_nil ?_
  intro _ hw'
  obtain ⟨⟨dq, osq⟩, hw''⟩ := hw'
  subst hw''
  go_wp2
  go_ret
  exact ⟨rfl, HB3.out.trans ((below_regrown w3 dq osq).mono HB3.out.size)⟩
end Go.Proofs.Ytiapmnedbjmmhaa
