/- The law FramePuts. -/
import Derived.Test.YtfnniponjbdamaaFrmW
namespace Go.Proofs.Ytfnniponjbdamaa
open Go.RowKit

set_option maxRecDepth 100000 in
set_option maxHeartbeats 2000000 in
theorem law_fputs (A : Option Addr) (c : Nat) (b : List UInt8) (w : World) (h : By w w.heap.size A b) :
    Calls Try.prog 3 #[.slice A b.length c] w fun e w' => e = .returned (.bool true) ∧ Below w.heap.size w w' := by
  have HA := Lib.hid (awake_any w)
  have HR := Lib.hid h
  clear h
  by_cases hbig : (3000 : Int) < (b.length : Int)
  · have hd : decide ((3000 : Int) < (b.length : Int)) = true := by simpa using hbig
    clear hbig
    go_enter Try.func3, Try.ntmps3
    go_wp2_with fail
    refine HA.out.mono ?_
    rintro e w1 ⟨rfl, hB1⟩
    go_wp2
    go_ret
    exact ⟨rfl, hB1⟩
  · have hd : decide ((3000 : Int) < (b.length : Int)) = false := by simpa using hbig
    clear hbig
    go_enter Try.func3, Try.ntmps3
    go_wp2_with fail
    refine HA.out.mono ?_
    rintro e w1 ⟨rfl, hB1⟩
    have H1 := Lib.hid (HR.out.later hB1)
    have HB1 := Lib.hid hB1
    clear hB1
    go_wp2_with fail
    refine (put_any A c b w1 H1.out).mono ?_
    rintro e w2 ⟨A2, c2, rfl, hby2, _, hB2⟩
    have H2 := Lib.hid (H1.out.later hB2)
    have HB2 := Lib.hid (HB1.out.trans (hB2.mono HB1.out.size))
    clear hB2
    go_wp2_with fail
    refine (rput_any A c b w2 H2.out).mono ?_
    rintro e w3 ⟨A3, c3, rfl, hby3, _, hB3⟩
    have hs2 := str_run c2 (hby2.later hB3)
    have hs3 := str_run c3 hby3
    have HB3 := Lib.hid (HB2.out.trans (hB3.mono HB2.out.size))
    clear hby2 hby3 hB3
    generalize (putR b).1 = bl at *
    generalize (putR b).2 = ec at *
    have hself : (ec == ec) = true := by simp
    go_wp2
    go_ret
    exact ⟨by simp, HB3.out⟩
end Go.Proofs.Ytfnniponjbdamaa
