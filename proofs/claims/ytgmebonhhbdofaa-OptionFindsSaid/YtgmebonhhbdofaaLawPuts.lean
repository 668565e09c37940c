/- The law OptionPuts. -/
import Derived.Test.YtgmebonhhbdofaaPutC
namespace Go.Proofs.Ytgmebonhhbdofaa
open Go.RowKit

theorem put_len (L : List OptV) (code : Int) (data : List UInt8) : (putL (absL L) code data).length ≤ L.length + 1 := by
  rw [put_all, List.length_append, List.length_map]
  have h := kept_length L (firstL (absL L) code) code L.length
  split
  · simp; omega
  · simp; omega

set_option maxRecDepth 100000 in
set_option maxHeartbeats 3000000 in
theorem law_puts (A A0 : Option Addr) (c c0 : Nat) (L : List OptV) (code : Int) (data : List UInt8) (w : World) (hr : Op w w.heap.size A L) (hlm : L.length ≤ 9223372036854775807) (hdm : ∀ x ∈ L, x.data.length ≤ 9223372036854775807) (hd : By w w.heap.size A0 data) (hdl : data.length ≤ 9223372036854775807) :
    Calls Try.prog 5 #[.slice A L.length c, .int .i64 code, .slice A0 data.length c0] w fun e w' => e = .returned (.bool true) ∧ Below w.heap.size w w' := by
  have HA := Lib.hid (awake_any w)
  have HR := Lib.hid hr
  have HD := Lib.hid hd
  have HF := Lib.hid (fun W (h : Op W W.heap.size A L) => few_any A c L W h hlm hdm)
  clear hr hd hdm
  cases hfew : fewB L
  · rw [hfew] at HF
    clear hfew
    go_enter Try.func5, Try.ntmps5
    go_wp2_with fail
    refine HA.out.mono ?_
    rintro e w1 ⟨rfl, hB1⟩
    go_wp2_with fail
    refine (HF.out w1 (HR.out.later hB1)).mono ?_
    rintro e w' ⟨rfl, rfl⟩
    go_wp2
    go_ret
    exact ⟨rfl, hB1⟩
  · have HFL := Lib.hid ((few_iff L).1 hfew)
    rw [hfew] at HF
    clear hfew
    by_cases hbig : 1000 < data.length
    · have hd1 : decide ((1000 : Int) < (data.length : Int)) = true := by simp; omega
      go_enter Try.func5, Try.ntmps5
      go_wp2_with fail
      refine HA.out.mono ?_
      rintro e w1 ⟨rfl, hB1⟩
      go_wp2_with fail
      refine (HF.out w1 (HR.out.later hB1)).mono ?_
      rintro e w' ⟨rfl, rfl⟩
      go_wp2
      go_ret
      exact ⟨rfl, hB1⟩
    · have hd1 : decide ((1000 : Int) < (data.length : Int)) = false := by simp; omega
      have hpl := put_len L code data
      go_enter Try.func5, Try.ntmps5
      go_wp2_with fail
      refine HA.out.mono ?_
      rintro e w1 ⟨rfl, hB1⟩
      have H1 := Lib.hid (HR.out.later hB1)
      go_wp2_with fail
      refine (HF.out w1 H1.out).mono ?_
      rintro e w' ⟨rfl, rfl⟩
      go_wp2_with fail
      refine (find_any A c L code w1 H1.out hlm HFL.out.2).mono ?_
      rintro e w2 ⟨A2, c2, rfl, hby2, hB2⟩
      have H2 := Lib.hid (H1.out.later hB2)
      go_wp2_with fail
      refine (rfind_any A c L code w2 H2.out hlm).mono ?_
      rintro e w3 ⟨A3, c3, rfl, hby3, hB3⟩
      have H3 := Lib.hid (H2.out.later hB3)
      have hs2 := str_run c2 (hby2.later hB3)
      have hs3 := str_run c3 hby3
      have hBw3 : Below w.heap.size w w3 := hB1.trans ((hB2.mono hB1.size).trans (hB3.mono (Nat.le_trans hB1.size hB2.size)))
      have HD3 := Lib.hid (HD.out.later hBw3)
      clear hby2 hby3
      generalize (findL (absL L) code).1 = fd at *
      generalize (findL (absL L) code).2 = fb at *
      have hself : (fb != fb) = false := by cases fb <;> rfl
      go_wp2_with fail
      refine (put_any A A0 c c0 L code data w3 H3.out HFL.out.1 HFL.out.2 HD3.out (by omega)).mono ?_
      rintro e w4 ⟨A4, c4, L4, rfl, hab4, hop4, hB4⟩
      have HAB4 := Lib.hid hab4
      have HOP4 := Lib.hid hop4
      clear hab4 hop4 hs2 hs3
      go_wp2_with fail
      refine (rput_any A A0 c c0 L code data w4 (H3.out.later hB4) HFL.out.1 (HD3.out.later hB4) (by omega)).mono ?_
      rintro e w5 ⟨A5, c5, L5, rfl, hab5, hop5, hB5⟩
      have HAB5 := Lib.hid hab5
      have hl4 : L4.length ≤ 100000 := by have := HFL.out.1; rw [← absL_length, HAB4.out]; omega
      have HS := Lib.hid (same_any A4 A5 c4 c5 L4 L5 w5 (HOP4.out.later hB5) hop5 hl4)
      rw [show decide (absL L4 = absL L5) = true by rw [HAB4.out, HAB5.out]; simp] at HS
      clear hab5 hop5
      go_wp2_with fail
      refine HS.out.mono ?_
      rintro e w6 ⟨rfl, n, rfl⟩
      go_wp2
      go_ret
      have hB := hBw3.trans ((hB4.mono hBw3.size).trans (hB5.mono (Nat.le_trans hBw3.size hB4.size)))
      exact ⟨rfl, hB.os, hB.tape, hB.output, hB.size, hB.block⟩
end Go.Proofs.Ytgmebonhhbdofaa
