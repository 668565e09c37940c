/- The law PacketTells. -/
import Derived.Test.YtmlckjccgdmknaaPktQ
import Derived.Test.YtmlckjccgdmknaaPktL
namespace Go.Proofs.Ytmlckjccgdmknaa
open Go.RowKit Go.Sort

set_option maxRecDepth 100000 in
set_option maxHeartbeats 1000000 in
theorem law_ptells (p : PktV) (w : World) (hp : Pk w w.heap.size p) (hlm : p.L.length ≤ 9223372036854775807) (hdm : ∀ x ∈ p.L, x.data.length ≤ 9223372036854775807) (hhm : p.hw.length ≤ 9223372036854775807) :
    Calls Try.prog 5 #[p.v] w fun e w' => e = .returned (.bool true) ∧ Below w.heap.size w w' := by
  obtain ⟨w0, hw0⟩ : ∃ w0, w0 = w.alloc (pbox p) := ⟨_, rfl⟩
  have HB0 : Hid (Below w.heap.size w w0) := Lib.hid (by rw [hw0]; exact (Below.refl _ _).alloc (Nat.le_refl _) _)
  have HX0 : Hid (PBox w0 w.heap.size p) := Lib.hid (by rw [hw0]; exact PBox.new w p)
  have HP0 : Hid (Pk w0 w0.heap.size p) := Lib.hid (hp.later HB0.out)
  have HA := Lib.hid (awake_any w0)
  have HF := Lib.hid (fun W (h : Pk W W.heap.size p) => pfew_any p W h hlm hdm hhm)
  have HW := Lib.hid hw0
  clear hp hdm hw0
  cases hfew : pfewB p
  · rw [hfew] at HF
    clear hfew
    go_enter Try.func5, Try.ntmps5
    go_wp2_with fail
    rw [← HW.out]
    refine HA.out.mono ?_
    rintro e w1 ⟨rfl, hB1⟩
    obtain ⟨c0, c1, c2, c3, c4, c5, c6, c7, c8, c9⟩ := (HX0.out.later hB1).all
    go_wp2_with fail
    refine (HF.out w1 (HP0.out.later hB1)).mono ?_
    rintro e w' ⟨rfl, rfl⟩
    go_wp2
    go_ret
    exact ⟨rfl, (HB0.out.trans (hB1.mono HB0.out.size)).alloc (Nat.le_trans HB0.out.size hB1.size) _⟩
  · have hfl : (p.L.length ≤ 100 ∧ ∀ x ∈ p.L, x.data.length ≤ 1000) ∧ p.hw.length < 1000 := by
      simp [pfewB] at hfew
      exact ⟨(few_iff p.L).1 hfew.1, hfew.2⟩
    have HFL := Lib.hid hfl
    rw [hfew] at HF
    clear hfew hfl
    go_enter Try.func5, Try.ntmps5
    go_wp2_with fail
    rw [← HW.out]
    refine HA.out.mono ?_
    rintro e w1 ⟨rfl, hB1⟩
    have HX1 := Lib.hid (HX0.out.later hB1)
    have HP1 := Lib.hid (HP0.out.later hB1)
    have HB1 := Lib.hid (HB0.out.trans (hB1.mono HB0.out.size))
    clear hB1
    obtain ⟨c0, c1, c2, c3, c4, c5, c6, c7, c8, c9⟩ := HX1.out.all
    go_wp2_with fail
    refine (HF.out w1 HP1.out).mono ?_
    rintro e w2 ⟨rfl, hw2⟩
    have hB2 : Below w1.heap.size w1 w2 := by rw [hw2]; exact (Below.refl _ _).alloc (Nat.le_refl _) _
    clear hw2 c0 c1 c2 c3 c4 c5 c6 c7 c8 c9
    have HX2 := Lib.hid (HX1.out.later hB2)
    have HP2 := Lib.hid (HP1.out.later hB2)
    have HB2 := Lib.hid (HB1.out.trans (hB2.mono HB1.out.size))
    clear hB2
    obtain ⟨c0, c1, c2, c3, c4, c5, c6, c7, c8, c9⟩ := HX2.out.all
    go_wp2_with fail
    refine (asked_any p w2 HP2.out (Nat.le_trans HFL.out.1.1 (by decide)) HFL.out.1.2).mono ?_
    rintro e w3 ⟨rfl, hB3⟩
    clear c0 c1 c2 c3 c4 c5 c6 c7 c8 c9
    have HX3 := Lib.hid (HX2.out.later hB3)
    have HP3 := Lib.hid (HP2.out.later hB3)
    have HB3 := Lib.hid (HB2.out.trans (hB3.mono HB2.out.size))
    clear hB3
    obtain ⟨c0, c1, c2, c3, c4, c5, c6, c7, c8, c9⟩ := HX3.out.all
    go_wp2_with fail
    refine (rasked_any p w3 HP3.out (Nat.le_trans HFL.out.1.1 (by decide)) HFL.out.1.2).mono ?_
    rintro e w4 ⟨rfl, hB4⟩
    clear c0 c1 c2 c3 c4 c5 c6 c7 c8 c9
    have HX4 := Lib.hid (HX3.out.later hB4)
    have HP4 := Lib.hid (HP3.out.later hB4)
    have HB4 := Lib.hid (HB3.out.trans (hB4.mono HB3.out.size))
    clear hB4
    obtain ⟨c0, c1, c2, c3, c4, c5, c6, c7, c8, c9⟩ := HX4.out.all
    have k0 := cell_regrown c0
    have k1 := cell_regrown c1
    have k2 := cell_regrown c2
    have k3 := cell_regrown c3
    have k4 := cell_regrown c4
    have k5 := cell_regrown c5
    have k6 := cell_regrown c6
    have k7 := cell_regrown c7
    have k8 := cell_regrown c8
    have k9 := cell_regrown c9
    clear c0 c1 c2 c3 c4 c5 c6 c7 c8 c9
    have CK := Lib.hid (fun d os => Calls.regrown_of (kind_any p (grow (redrawn w4 d) os) (HP4.out.regrown d os) (Nat.le_trans HFL.out.1.1 (by decide)) HFL.out.1.2))
    have DK := Lib.hid (fun d os => Calls.regrown_of (rkind_any p (grow (redrawn w4 d) os) (HP4.out.regrown d os) (Nat.le_trans HFL.out.1.1 (by decide)) HFL.out.1.2))
    have CC := Lib.hid (fun d os => Calls.regrown_of (client_any p (grow (redrawn w4 d) os) (HP4.out.regrown d os) (Nat.le_trans HFL.out.1.1 (by decide)) HFL.out.1.2))
    have DC := Lib.hid (fun d os => Calls.regrown_of (rclient_any p (grow (redrawn w4 d) os) (HP4.out.regrown d os) (Nat.le_trans HFL.out.1.1 (by decide)) HFL.out.1.2))
    generalize askA p.abs = aa at *
    generalize longA p.abs = la at *
    generalize kindA p.abs = ka at *
    generalize clientA p.abs = ca at *
    have hself : ((aa : Int) == (aa : Int)) = true := by simp
    have hself1 : ((la : Int) == (la : Int)) = true := by simp
    have hself2 : ((ka : Int) == (ka : Int)) = true := by simp
    have hself3 : (ca == ca) = true := by simp
    go_wp2_with fail
    refine wp_region_quiet_below (by kernel_rfl) (by kernel_rfl) ?_
    repeat (quiet_step (first | (go_at_call 19; exact CK.out _ _) | (go_at_call 20; exact DK.out _ _) | (go_at_call 21; exact CC.out _ _) | (go_at_call 22; exact DC.out _ _)))
    refine wpQuiet_nil ?_
    intro _ hw'
    obtain ⟨⟨dq, osq⟩, hw''⟩ := hw'
    subst hw''
    go_wp2
    go_ret
    exact ⟨by simp, HB4.out.trans ((below_regrown w4 dq osq).mono HB4.out.size)⟩
end Go.Proofs.Ytmlckjccgdmknaa
