/- The law LeaseEncodes. -/
import Derived.Test.YtdjbgphcmmcnhaaLeaW
import Derived.Test.YtdjbgphcmmcnhaaLeaF
namespace Go.Proofs.Ytdjbgphcmmcnhaa
open Go.RowKit Go.Sort

set_option maxRecDepth 100000 in
set_option maxHeartbeats 2000000 in
theorem law_lencodes (m : LV) (w : World) (ha : m.addr < 4294967296) :
    Calls Try.prog 3 #[m.v] w fun e w' => e = .returned (.bool true) ∧ Below w.heap.size w w' := by
  obtain ⟨w0, hw0⟩ : ∃ w0, w0 = w.alloc (lbox m) := ⟨_, rfl⟩
  have HX : Hid (LBox w0 w.heap.size m) := Lib.hid (by rw [hw0]; exact LBox.new w m)
  have HB0 : Hid (Below w.heap.size w w0) := Lib.hid (by rw [hw0]; exact (Below.refl _ _).alloc (Nat.le_refl _) _)
  have HW0 := Lib.hid hw0
  have HE := Lib.hid (fun W => encode_any m ha W)
  have HF := Lib.hid (fun W => rencode_any m ha W)
  clear hw0
  by_cases hbig : 1000 < m.cb.size
  · have hd : decide ((1000 : Int) < (m.cb.size : Int)) = true := by simp; omega
    go_enter Try.func3, Try.ntmps3
    go_wp2_with fail
    rw [← HW0.out]
    refine (awake_any _).mono ?_
    rintro e w1 ⟨rfl, hB1⟩
    have c2 := (HX.out.later hB1).c2
    go_wp2
    go_ret
    exact ⟨rfl, HB0.out.trans (hB1.mono HB0.out.size)⟩
  · have hd : decide ((1000 : Int) < (m.cb.size : Int)) = false := by simp; omega
    go_enter Try.func3, Try.ntmps3
    go_wp2_with fail
    rw [← HW0.out]
    refine (awake_any _).mono ?_
    rintro e w1 ⟨rfl, hB1⟩
    have HX1 := Lib.hid (HX.out.later hB1)
    have HB1 := Lib.hid (HB0.out.trans (hB1.mono HB0.out.size))
    obtain ⟨c0, c1, c2, c3, c4, c5, c6, c7⟩ := HX1.out.all
    clear hB1
    go_wp2_with fail
    refine (HE.out _).mono ?_
    rintro e w2 ⟨A2, k2, rfl, hby2, _, hB2⟩
    clear c0 c1 c2 c3 c4 c5 c6 c7
    have HX2 := Lib.hid (HX1.out.later hB2)
    have HB2 := Lib.hid (HB1.out.trans (hB2.mono HB1.out.size))
    obtain ⟨c0, c1, c2, c3, c4, c5, c6, c7⟩ := HX2.out.all
    have HY2 := Lib.hid hby2
    clear hB2 hby2
    go_wp2_with fail
    refine (HF.out _).mono ?_
    rintro e w3 ⟨A3, k3, rfl, hby3, _, hB3⟩
    clear c0 c1 c2 c3 c4 c5 c6 c7
    have HX3 := Lib.hid (HX2.out.later hB3)
    have HB3 := Lib.hid (HB2.out.trans (hB3.mono HB2.out.size))
    have hs2 := str_regrown k2 (HY2.out.later hB3)
    have hs3 := str_regrown k3 hby3
    obtain ⟨q0, q1, q2, q3, q4, q5, q6, q7⟩ := HX3.out.allR
    have CR := Lib.hid (fun d os => Calls.regrown_of (right_any m (grow (redrawn w3 d) os)))
    have CS := Lib.hid (fun d os => Calls.regrown_of (rright_any m (grow (redrawn w3 d) os)))
    have CO := Lib.hid (fun d os => Calls.regrown_of (over_any m (grow (redrawn w3 d) os)))
    have CP := Lib.hid (fun d os => Calls.regrown_of (rover_any m (grow (redrawn w3 d) os)))
    clear hby3 hB3 HE HF
    generalize (encR m).1 = bl at *
    generalize (encR m).2 = ec at *
    generalize decide (RightL m) = rb at *
    generalize overL m = ov at *
    have hself4 : (ov == ov) = true := by simp
    have hself : (ec == ec) = true := by simp
    have hself2 : (bl == bl) = true := by simp
    have hself3 : (rb == rb) = true := by simp
    go_wp2_with fail
    refine wp_region_quiet_below (by kernel_rfl) (by kernel_rfl) ?_
    repeat (quiet_step (first | (go_at_call 10; exact CR.out _ _) | (go_at_call 11; exact CS.out _ _) | (go_at_call 12; exact CO.out _ _) | (go_at_call 13; exact CP.out _ _)))
    refine wpQuiet_nil ?_
    intro _ hw'
    obtain ⟨⟨dq, osq⟩, hw''⟩ := hw'
    subst hw''
    go_wp2
    go_ret
    exact ⟨by simp, HB3.out.trans ((below_regrown w3 dq osq).mono HB3.out.size)⟩
end Go.Proofs.Ytdjbgphcmmcnhaa
