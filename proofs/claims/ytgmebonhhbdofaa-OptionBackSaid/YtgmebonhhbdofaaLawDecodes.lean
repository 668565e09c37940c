/- The law OptionDecodes. -/
import Derived.Test.YtgmebonhhbdofaaOptK
namespace Go.Proofs.Ytgmebonhhbdofaa
open Go.RowKit

theorem decL_len : ∀ (k : Nat) (b : List UInt8) (l : List (Int × List UInt8)), b.length ≤ k → decL b = some l → l.length ≤ b.length
  | 0, b, l, hk, h => by
    obtain rfl : b = [] := List.eq_nil_of_length_eq_zero (by omega)
    rw [decL_nil skipL_nil] at h
    cases h
  | k + 1, b, l, hk, h => by
    have hsk := skipL_length b
    match hs : skipL b with
    | [] => rw [decL_nil hs] at h; cases h
    | x :: r =>
      rw [hs] at hsk
      by_cases hx : x = 255
      · subst hx
        rw [decL_end hs] at h
        split at h
        · obtain rfl := Option.some.inj h; simp
        · cases h
      · match hp : splitL (x :: r) with
        | none => rw [decL_cut hs hx hp] at h; cases h
        | some (d, b') =>
          rw [decL_one hs hx hp] at h
          have hlt := splitL_lt hp
          match hd : decL b' with
          | none => rw [hd] at h; cases h
          | some l' =>
            rw [hd] at h
            obtain rfl := Option.some.inj h
            have := decL_len k b' l' (by omega) hd
            simp
            omega
theorem decR_len (b : List UInt8) : (decR b).1.length ≤ b.length := by
  unfold decR
  split
  · simp
  · split
    · rename_i l hl
      exact decL_len _ b l (Nat.le_refl _) hl
    · simp

set_option maxRecDepth 100000 in
set_option maxHeartbeats 2000000 in
theorem law_decodes (A : Option Addr) (c : Nat) (b : List UInt8) (w : World) (h : By w w.heap.size A b) (hcap : b.length ≤ c) (hlm : b.length ≤ 9223372036854775807) :
    Calls Try.prog 4 #[.slice A b.length c] w fun e w' => e = .returned (.bool true) ∧ Below w.heap.size w w' := by
  have HA := Lib.hid (awake_any w)
  have H := Lib.hid h
  clear h
  by_cases hbig : 3000 < b.length
  · go_enter Try.func4, Try.ntmps4
    go_wp2_with fail
    refine HA.out.mono ?_
    rintro e w1 ⟨rfl, hB1⟩
    go_wp2
    go_ret
    exact ⟨rfl, hB1⟩
  · have hd : decide ((3000 : Int) < (b.length : Int)) = false := by simp; omega
    have hln := decR_len b
    go_enter Try.func4, Try.ntmps4
    go_wp2_with fail
    refine HA.out.mono ?_
    rintro e w1 ⟨rfl, hB1⟩
    have H1 := Lib.hid (H.out.later hB1)
    go_wp2_with fail
    refine (decode_any A c b (by omega) hcap w1 H1.out).mono ?_
    rintro e w2 ⟨A2, c2, L2, rfl, hab2, hop2, hB2⟩
    have H2 := Lib.hid (H1.out.later hB2)
    have HAB2 := Lib.hid hab2
    clear hab2
    go_wp2_with fail
    refine (rdecode_any A c b w2 H2.out hcap (by omega)).mono ?_
    rintro e w3 ⟨A3, c3, L3, rfl, hab3, hop3, hB3⟩
    have HAB3 := Lib.hid hab3
    clear hab3
    have hop2' := hop2.later hB3
    have hl2 : L2.length ≤ 100000 := by rw [← absL_length, HAB2.out]; omega
    have HS := Lib.hid (same_any A2 A3 c2 c3 L2 L3 w3 hop2' hop3 hl2)
    rw [show decide (absL L2 = absL L3) = true by rw [HAB2.out, HAB3.out]; simp] at HS
    clear hop2 hop2' hop3
    generalize (decR b).2 = ec at *
    go_wp2_with fail
    refine HS.out.mono ?_
    rintro e w4 ⟨rfl, n, rfl⟩
    have hself : (ec == ec) = true := by simp
    go_wp2
    go_ret
    refine ⟨by simp, ?_⟩
    have hB := hB1.trans ((hB2.mono hB1.size).trans (hB3.mono (Nat.le_trans hB1.size hB2.size)))
    exact ⟨hB.os, hB.tape, hB.output, hB.size, hB.block⟩
end Go.Proofs.Ytgmebonhhbdofaa
