/- The law OptionEncodes. -/
import Derived.Test.YtgmebonhhbdofaaRefE
namespace Go.Proofs.Ytgmebonhhbdofaa
open Go.RowKit

set_option maxRecDepth 100000 in
set_option maxHeartbeats 2000000 in
theorem law_encodes (A : Option Addr) (c : Nat) (L : List OptV) (w : World) (hr : Op w w.heap.size A L) (hlm : L.length ≤ 9223372036854775807) (hdm : ∀ x ∈ L, x.data.length ≤ 9223372036854775807) :
    Calls Try.prog 3 #[.slice A L.length c] w fun e w' => e = .returned (.bool true) ∧ Below w.heap.size w w' := by
  have HA := Lib.hid (awake_any w)
  have HR := Lib.hid hr
  have HDM := Lib.hid hdm
  clear hr hdm
  cases hfew : fewB L
  · have HF := Lib.hid (fun W (h : Op W W.heap.size A L) => few_any A c L W h hlm HDM.out)
    rw [hfew] at HF
    clear hfew
    go_enter Try.func3, Try.ntmps3
    go_wp2_with fail
    refine HA.out.mono ?_
    rintro e w1 ⟨rfl, hB1⟩
    go_wp2_with fail
    refine (HF.out w1 (HR.out.later hB1)).mono ?_
    rintro e w' ⟨rfl, rfl⟩
    go_wp2
    go_ret
    exact ⟨rfl, hB1⟩
  · have HF := Lib.hid (fun W (h : Op W W.heap.size A L) => few_any A c L W h hlm HDM.out)
    have HFL := Lib.hid ((few_iff L).1 hfew)
    rw [hfew] at HF
    clear hfew
    go_enter Try.func3, Try.ntmps3
    go_wp2_with fail
    refine HA.out.mono ?_
    rintro e w1 ⟨rfl, hB1⟩
    have H1 := Lib.hid (HR.out.later hB1)
    go_wp2_with fail
    refine (HF.out w1 H1.out).mono ?_
    rintro e w' ⟨rfl, rfl⟩
    go_wp2_with fail
    refine (encode_any A c L w1 H1.out HFL.out.1).mono ?_
    rintro e w2 ⟨A2, c2, rfl, hby2, _, hB2⟩
    have H2 := Lib.hid (H1.out.later hB2)
    go_wp2_with fail
    refine (rencode_any A c L w2 H2.out HFL.out.1 HFL.out.2).mono ?_
    rintro e w3 ⟨A3, c3, rfl, hby3, _, hB3⟩
    have hs2 := str_run c2 (hby2.later hB3)
    have hs3 := str_run c3 hby3
    clear hby2 hby3
    generalize (encL (absL L)).1 = bl at *
    generalize (encL (absL L)).2 = ec at *
    have hself : (ec == ec) = true := by simp
    go_wp2
    go_ret
    exact ⟨by simp, hB1.trans ((hB2.mono hB1.size).trans (hB3.mono (Nat.le_trans hB1.size hB2.size)))⟩
end Go.Proofs.Ytgmebonhhbdofaa
