/- The law DiskFails. -/
import Derived.Test.YtofaapcfileojaaDskW
namespace Go.Proofs.Ytofaapcfileojaa
open Go.RowKit

/-- The disk of DiskFails behind i changes, of which n are made. -/
def fs (n i : Nat) : DS := ⟨1000, List.replicate (min i n) 7, 0, ((n - i : Nat) : Int)⟩
theorem fs_ok {n i : Nat} (hn : n ≤ 50) : (fs n i).Ok :=
  ⟨by show 1 ≤ 1000; omega, by show 1000 ≤ 1048576; omega, by simp only [fs, List.length_replicate]; omega, by simp only [fs]; omega, by simp only [fs]; omega, by simp only [fs]; omega⟩
theorem fs_app (n i : Nat) (hn : n ≤ 50) : appD (fs n i) [7] = (if i < n then 0 else 7, fs n (i + 1)) := by
  by_cases h : i < n
  · rw [if_pos h, appD, if_neg (show ¬ (fs n i).left = 0 by simp only [fs]; omega), if_neg (by simp only [fs, List.length_replicate, List.length_singleton]; omega)]
    have hc : (fs n i).count = { fs n i with left := ((n - i : Nat) : Int) - 1 } := by
      unfold DS.count
      rw [if_neg (show ¬ (fs n i).left = -1 by simp only [fs]; omega)]
      rfl
    rw [hc]
    simp only [fs]
    rw [Nat.min_eq_left (by omega), Nat.min_eq_left (by omega), List.replicate_succ']
    congr 2
    omega
  · rw [if_neg h, appD, if_pos (show (fs n i).left = 0 by simp only [fs]; omega)]
    simp only [fs]
    rw [Nat.min_eq_right (by omega), Nat.min_eq_right (by omega)]
    congr 3
    omega
theorem fs_crash (n m : Nat) : crashD (fs n (n + m)) n = ⟨1000, List.replicate n 7, n, -1⟩ := by
  have hk : kept (fs n (n + m)) (n : Int) = n := by
    unfold kept
    simp only [fs, List.length_replicate]
    split
    · omega
    · rw [if_pos (by omega)]; omega
  unfold crashD
  rw [hk]
  simp only [fs]
  rw [Nat.min_eq_right (by omega), Nat.zero_add, List.take_of_length_le (by simp)]

set_option maxRecDepth 100000 in
set_option maxHeartbeats 1000000 in
theorem law_fails (a b : Int) (w : World) : Calls Try.prog 6 #[.int .i64 a, .int .i64 b] w fun e w' => e = .returned (.bool true) ∧ Below w.heap.size w w' := by
  have HA := Lib.hid (awake_any w)
  by_cases hin : 0 ≤ a ∧ a ≤ 50 ∧ 0 ≤ b ∧ b ≤ 50
  · obtain ⟨n, rfl⟩ := Int.eq_ofNat_of_zero_le hin.1
    obtain ⟨m, rfl⟩ := Int.eq_ofNat_of_zero_le hin.2.2.1
    have hn : n ≤ 50 := by omega
    have hm : m ≤ 50 := by omega
    clear hin
    have d1 : decide ((n : Int) < 0) = false := decide_eq_false (by omega)
    have d2 : decide (50 < (n : Int)) = false := decide_eq_false (by omega)
    have d3 : decide ((m : Int) < 0) = false := decide_eq_false (by omega)
    have d4 : decide (50 < (m : Int)) = false := decide_eq_false (by omega)
    go_enter Try.func6, Try.ntmps6
    go_wp2_with fail
    refine HA.out.mono ?_
    rintro e w1 ⟨rfl, hb1⟩
    have HB1 := Lib.hid hb1
    have HN := Lib.hid (new_any w1 1000)
    clear hb1
    go_wp2_with fail
    refine HN.out.mono ?_
    rintro e w2 (⟨k, hk, _, _, rfl, h2, hb2, hz⟩ | ⟨h0, _⟩)
    · obtain rfl : k = 1000 := by omega
      obtain ⟨D, hD⟩ : ∃ D, D = w1.heap.size := ⟨_, rfl⟩
      have hlow : w.heap.size ≤ D := by rw [hD]; exact HB1.out.size
      rw [← hD] at h2 hb2 ⊢
      have HLow := Lib.hid hlow
      have H2 := Lib.hid h2
      have HB2 := Lib.hid (HB1.out.trans (hb2.mono hlow))
      have HF := Lib.hid (fail_any h2 n)
      clear hk hz hD hlow h2 hb2
      go_wp2_with fail
      refine HF.out.mono ?_
      rintro e w3 ⟨rfl, hd3⟩
      have HB3 := Lib.hid (HB2.out.trans ((Did.low H2.out (Nat.le_refl _) hd3).mono HLow.out))
      obtain ⟨v3, h3, _, _⟩ := hd3
      have h3 : DAt DT (D + 1) w3 D (fs n 0) v3 := by
        have e : failD ⟨1000, [], 0, -1⟩ (n : Int) = fs n 0 := by
          simp only [failD, fs]
          rw [if_neg (by omega), Nat.min_eq_left (by omega)]
          rfl
        rw [← e]; exact h3
      have H3 := Lib.hid h3
      clear h3
      go_wp2
      go_loopw [8, 9] (fun i _ wr => ∃ j : Nat, j ≤ n + m ∧ i = .int .i64 j ∧ (∃ v, DAt DT (D + 1) wr D (fs n j) v) ∧ Below w.heap.size w wr) (fun i _ _ => n + m - (intOf i).toNat)
      case atStart => exact ⟨0, Nat.zero_le _, rfl, ⟨_, H3.out⟩, HB3.out⟩
      case round =>
        obtain ⟨j, hj, rfl, ⟨vj, hvj⟩, hbj⟩ := hrel
        have HJ := Lib.hid hvj
        have HBJ := Lib.hid hbj
        clear hvj hbj
        have hw : IntKind.i64.wrap ((n : Int) + (m : Int)) = (n : Int) + (m : Int) := IntWalk.i64_in _ (by omega)
        have hwj : IntKind.i64.wrap ((j : Int) + 1) = ((j + 1 : Nat) : Int) := by rw [IntWalk.i64_in _ (by omega)]; omega
        by_cases hlt : j < n + m
        · have d5 : decide ((j : Int) < (n : Int) + (m : Int)) = true := decide_eq_true (by omega)
          have HAp := Lib.hid (append_any (c := 1) (HJ.out.alloc (.cells #[.int .u8 7] 5)) (fs_ok hn) (ByO.lit HJ.out [7] 5))
          have HLJ : Hid (Below w.heap.size wr (wr.alloc (.cells #[.int .u8 7] 5))) := Lib.hid ((Below.refl _ _).alloc HBJ.out.size _)
          rw [fs_app n j hn] at HAp
          have Hlt := Lib.hid hlt
          clear hlt
          by_cases hjn : j < n
          · have d6 : decide ((j : Int) < (n : Int)) = true := decide_eq_true (by omega)
            rw [if_pos hjn] at HAp
            go_wp2_with fail
            refine HAp.out.mono ?_
            rintro e w4 ⟨rfl, hd4⟩
            have HB4 := Lib.hid (HBJ.out.trans (HLJ.out.trans ((Did.low (HJ.out.alloc _) (Nat.le_refl _) hd4).mono HLow.out)))
            obtain ⟨v4, h4, _, _⟩ := hd4
            have H4 := Lib.hid h4
            clear h4
            go_wp2
            go_roundw
            case rel => exact ⟨j + 1, Hlt.out, by go_num, ⟨v4, H4.out⟩, HB4.out⟩
            case measure => have := Hlt.out; simp [intOf]; omega
          · have d6 : decide ((j : Int) < (n : Int)) = false := decide_eq_false (by omega)
            rw [if_neg hjn] at HAp
            go_wp2_with fail
            refine HAp.out.mono ?_
            rintro e w4 ⟨rfl, hd4⟩
            have HB4 := Lib.hid (HBJ.out.trans (HLJ.out.trans ((Did.low (HJ.out.alloc _) (Nat.le_refl _) hd4).mono HLow.out)))
            obtain ⟨v4, h4, _, _⟩ := hd4
            have H4 := Lib.hid h4
            clear h4
            go_wp2
            go_roundw
            case rel => exact ⟨j + 1, Hlt.out, by go_num, ⟨v4, H4.out⟩, HB4.out⟩
            case measure => have := Hlt.out; simp [intOf]; omega
        · obtain rfl : j = n + m := by omega
          have d5 : decide (((n + m : Nat) : Int) < (n : Int) + (m : Int)) = false := decide_eq_false (by omega)
          have HC := Lib.hid (crash_any HJ.out (fs_ok hn) n)
          rw [fs_crash] at HC
          go_wp2_with fail
          refine HC.out.mono ?_
          rintro e w4 ⟨rfl, hd4⟩
          have HB4 := Lib.hid (HBJ.out.trans ((Did.low HJ.out (Nat.le_refl _) hd4).mono HLow.out))
          obtain ⟨v4, h4, _, _⟩ := hd4
          have H4 := Lib.hid h4
          have ok4 : (⟨1000, List.replicate n 7, n, -1⟩ : DS).Ok := ⟨by show 1 ≤ 1000; omega, by show 1000 ≤ 1048576; omega, by simp only [List.length_replicate]; omega, by simp only [List.length_replicate]; omega, by simp only []; omega, by simp only []; omega⟩
          have HS := Lib.hid (sync_any h4 ok4)
          clear h4
          go_wp2_with fail
          refine HS.out.mono ?_
          rintro e w5 ⟨rfl, hd5⟩
          have HB5 := Lib.hid (HB4.out.trans ((Did.low H4.out (Nat.le_refl _) hd5).mono HLow.out))
          obtain ⟨v5, h5, _, _⟩ := hd5
          have h5 : DAt DT (D + 1) w5 D ⟨1000, List.replicate n 7, (List.replicate n (7 : UInt8)).length, -1⟩ v5 := h5
          have H5 := Lib.hid h5
          have HR := Lib.hid (read_any h5 (sync_ok ok4))
          clear h5
          go_wp2_with fail
          refine HR.out.mono ?_
          intro e w6 hg6
          obtain ⟨A6, c6, rfl, _, hb6, _⟩ := give_str hg6
          have HB6 := Lib.hid (HB5.out.trans (hb6.mono HB5.out.size))
          clear hg6 hb6
          have hn1 : (List.replicate n (7 : UInt8)).length = n := List.length_replicate
          go_wp2
          go_ret
          exact ⟨rfl, HB6.out⟩
    · exact absurd ⟨by decide, by decide⟩ h0
  · have hin2 : (decide (a < 0) = true) ∨ (decide (a < 0) = false ∧ decide (50 < a) = true) ∨ (decide (a < 0) = false ∧ decide (50 < a) = false ∧ decide (b < 0) = true) ∨ (decide (a < 0) = false ∧ decide (50 < a) = false ∧ decide (b < 0) = false ∧ decide (50 < b) = true) := by
      simp only [decide_eq_true_eq, decide_eq_false_iff_not]; omega
    clear hin
    rcases hin2 with d1 | ⟨d1, d2⟩ | ⟨d1, d2, d3⟩ | ⟨d1, d2, d3, d4⟩
    all_goals
      go_enter Try.func6, Try.ntmps6
      go_wp2_with fail
      refine HA.out.mono ?_
      rintro e w1 ⟨rfl, hb1⟩
      have HB1 := Lib.hid hb1
      have HN := Lib.hid (new_any w1 1000)
      clear hb1
      go_wp2_with fail
      refine HN.out.mono ?_
      rintro e w2 (⟨k, hk, _, _, rfl, h2, hb2, hz⟩ | ⟨h0, _⟩)
      · have HB2 := Lib.hid (HB1.out.trans (hb2.mono HB1.out.size))
        clear hk hz h2 hb2
        go_wp2
        go_ret
        exact ⟨rfl, HB2.out⟩
      · exact absurd ⟨by decide, by decide⟩ h0

end Go.Proofs.Ytofaapcfileojaa
