/- The law FrameScans. -/
import Derived.Test.YtfnniponjbdamaaFrmW
import Derived.Test.YtfnniponjbdamaaFrmT
import Derived.Test.YtfnniponjbdamaaFrmV
namespace Go.Proofs.Ytfnniponjbdamaa
open Go.RowKit

theorem below_drewN (w : World) (n : Nat) : Below w.heap.size w (w.drewN n) := ⟨rfl, rfl, rfl, Nat.le_refl _, fun _ _ => rfl⟩
theorem scan_len (b : List UInt8) : (scanL b).length ≤ b.length := by
  have h1 := len_tot (scanL b)
  have h2 := congrArg List.length (scan_back b).2.1
  rw [List.length_append, frs_length] at h2
  omega

set_option maxRecDepth 100000 in
set_option maxHeartbeats 2000000 in
theorem law_fscans (A : Option Addr) (c : Nat) (b : List UInt8) (w : World) (h : By w w.heap.size A b) (hcap : b.length ≤ c) :
    Calls Try.prog 4 #[.slice A b.length c] w fun e w' => e = .returned (.bool true) ∧ Below w.heap.size w w' := by
  have HA := Lib.hid (awake_any w)
  have HR := Lib.hid h
  clear h
  by_cases hbig : (5000 : Int) < (b.length : Int)
  · have hd : decide ((5000 : Int) < (b.length : Int)) = true := by simpa using hbig
    clear hbig
    go_enter Try.func4, Try.ntmps4
    go_wp2_with fail
    refine HA.out.mono ?_
    rintro e w1 ⟨rfl, hB1⟩
    go_wp2
    go_ret
    exact ⟨rfl, hB1⟩
  · have hd : decide ((5000 : Int) < (b.length : Int)) = false := by simpa using hbig
    have hb : b.length ≤ 5000 := by omega
    clear hbig
    have hsl := scan_len b
    go_enter Try.func4, Try.ntmps4
    go_wp2_with fail
    refine HA.out.mono ?_
    rintro e w1 ⟨rfl, hB1⟩
    have H1 := Lib.hid (HR.out.later hB1)
    have HB1 := Lib.hid hB1
    clear hB1
    go_wp2_with fail
    refine (scan_any A c b (by omega) hcap w1 H1.out).mono ?_
    rintro e w2 ⟨A2, c2, L2, rfl, hL2, hls2, _, hB2⟩
    have H2 := Lib.hid (H1.out.later hB2)
    have HB2 := Lib.hid (HB1.out.trans (hB2.mono HB1.out.size))
    have HL2 := Lib.hid hL2
    have hll2 : L2.length ≤ 1048576 := by have := congrArg List.length hL2; rw [datas_length] at this; omega
    clear hB2 hL2
    go_wp2_with fail
    refine (rscan_any A c b (by omega) hcap w2 H2.out).mono ?_
    rintro e w3 ⟨A3, c3, L3, rfl, hL3, hls3, _, hB3⟩
    have HB3 := Lib.hid (HB2.out.trans (hB3.mono HB2.out.size))
    have HS := Lib.hid (same_any _ _ A2 A3 c2 c3 L2 L3 w3 (hls2.later hB3) hls3 hll2)
    rw [HL2.out, hL3, decide_eq_true rfl] at HS
    clear hls2 hls3 hB3 hL3
    generalize tot (scanL b) = k at *
    have hself : ((k : Int) == (k : Int)) = true := by simp
    go_wp2_with fail
    refine HS.out.mono ?_
    rintro e w4 ⟨rfl, m, rfl⟩
    go_wp2
    go_ret
    exact ⟨by simp, HB3.out.trans ((below_drewN w3 m).mono HB3.out.size)⟩
end Go.Proofs.Ytfnniponjbdamaa
