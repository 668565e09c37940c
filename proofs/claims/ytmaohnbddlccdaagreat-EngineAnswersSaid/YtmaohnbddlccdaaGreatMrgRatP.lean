/- Joined texts: RatP, RatT. -/
import Derived.Test.YtmaohnbddlccdaaGreatMrgFloM

/- The part of a number: the program's, and the document's. -/
section
namespace Go.Proofs.YtmaohnbddlccdaaGreat.NR
open Ieee Go.RowKit Flo

theorem part_any (n : Int) (w : Nat) (W : World) : Calls Tryz.prog 163 #[.int .i64 n, .float .f64 w] W fun e w' => e = .returned (.int .i64 (partV n w)) ∧ W = w' := by
  by_cases h1 : n < 1
  · have hd : decide (n < 1) = true := by simpa using h1
    go_enter Tryz.func163, Tryz.ntmps163
    go_wp2
    go_ret
    have : partV n w = 0 := by unfold partV; rw [if_pos (Or.inl h1)]
    rw [this]
    exact ⟨rfl, rfl⟩
  have hd : decide (n < 1) = false := by simpa using h1
  cases hn : nanW w
  case neg.true =>
    have HP := Lib.hid (show partV n w = 0 by unfold partV; rw [if_pos (Or.inr (Or.inl hn))])
    go_enter Tryz.func163, Tryz.ntmps163
    go_wp2_with (go_at_call 174; refine (isnan_any w W).mono ?_; rw [hn]; rintro e w' ⟨rfl, rfl⟩)
    go_ret
    rw [HP.out]
    exact ⟨rfl, rfl⟩
  by_cases h0 : key w ≤ 0
  · have HP := Lib.hid (show partV n w = 0 by unfold partV; rw [if_pos (Or.inr (Or.inr h0))])
    have hle : (FloatKind.f64.format.order w 0 == some .lt || FloatKind.f64.format.order w 0 == some .eq) = true := by
      rw [t_le]; unfold leF; rw [hn, nan_zero, key_zero, decide_eq_true h0]; rfl
    go_enter Tryz.func163, Tryz.ntmps163
    go_wp2_with (go_at_call 174; refine (isnan_any w W).mono ?_; rw [hn]; rintro e w' ⟨rfl, rfl⟩)
    go_ret
    rw [HP.out]
    exact ⟨rfl, rfl⟩
  have hle : (FloatKind.f64.format.order w 0 == some .lt || FloatKind.f64.format.order w 0 == some .eq) = false := by
    rw [t_le]; unfold leF; rw [hn, nan_zero, key_zero, decide_eq_false h0]; rfl
  have hnot : ¬ (n < 1 ∨ nanW w = true ∨ key w ≤ 0) := by
    rintro (x | x | x)
    · exact h1 x
    · rw [hn] at x; cases x
    · exact h0 x
  obtain ⟨k, hk⟩ : ∃ k : Nat, (k : Int) = min n (2 ^ 40) := ⟨(min n (2 ^ 40)).toNat, by omega⟩
  have hmin : (if (1099511627776 : Int) < n then 1099511627776 else n) = (k : Int) := by rw [hk]; split <;> omega
  have hk1 : 1 ≤ k := by omega
  have hk2 : k ≤ 1099511627776 := by omega
  by_cases hu : (U : Int) ≤ key w
  · have HP := Lib.hid (show partV n w = (k : Int) by unfold partV; rw [if_neg hnot, if_pos hu, hk])
    have hge : (FloatKind.f64.format.order w 4607182418800017408 == some .gt || FloatKind.f64.format.order w 4607182418800017408 == some .eq) = true := by
      rw [t_ge]; unfold geF; rw [hn, nan_one, key_one', decide_eq_true hu]; rfl
    clear hu h0 hnot hk
    go_enter Tryz.func163, Tryz.ntmps163
    go_wp2_with (go_at_call 174; refine (isnan_any w W).mono ?_; rw [hn]; rintro e w' ⟨rfl, rfl⟩)
    go_ret
    rw [HP.out]
    exact ⟨rfl, rfl⟩
  · have hge : (FloatKind.f64.format.order w 4607182418800017408 == some .gt || FloatKind.f64.format.order w 4607182418800017408 == some .eq) = false := by
      rw [t_ge]; unfold geF; rw [hn, nan_one, key_one', decide_eq_false hu]; rfl
    obtain ⟨hs, hv⟩ := key_pos (w := w) (by omega)
    have hg : val (rg w) ≤ U := by omega
    have hmul : ∀ W, (binOp .mul 24 (.float .f64 (floatOfInt .f64 (k : Int))) (.float .f64 w)).run Tryz.prog W = .ok (.float .f64 (prod k w)) W := fun W => run_float_arith W _ _ _ _ _ _ (bits_mul hk1 (by omega) hs hg)
    have hconv : ∀ W, (convert 24 3 (.float .f64 (prod k w))).run Tryz.prog W = .ok (.int .i64 ((val (prod k w) / U : Nat) : Int)) W := fun W => run_convert_float_int W _ _ _ _ _ _ (by rw [Tryz.underlying24]; rfl) Tryz.underlying3 (prod_conv hk1 (by omega) hg)
    have hcut := prod_cut (k := k) (w := w) hk1 (by omega) hg
    have HP := Lib.hid (show partV n w = ((val (prod k w) / U : Nat) : Int) by
      unfold partV; rw [if_neg hnot, if_neg hu, ← hk, Int.toNat_natCast])
    generalize prod k w = p at *
    generalize val p / U = q at *
    clear hu h0 hnot hk hs hv hg
    go_enter Tryz.func163, Tryz.ntmps163
    go_wp2_with (go_at_call 174; refine (isnan_any w W).mono ?_; rw [hn]; rintro e w' ⟨rfl, rfl⟩)
    go_ret
    rw [HP.out]
    exact ⟨rfl, rfl⟩

/- The document's. -/
theorem rpart_any (n : Int) (w : Nat) (W : World) : Calls Tryz.prog 167 #[.int .i64 n, .float .f64 w] W fun e w' => e = .returned (.int .i64 (partV n w)) ∧ W = w' := by
  by_cases h1 : n < 1
  · have hd : decide (n < 1) = true := by simpa using h1
    go_enter Tryz.func167, Tryz.ntmps167
    go_wp2
    go_ret
    have : partV n w = 0 := by unfold partV; rw [if_pos (Or.inl h1)]
    rw [this]
    exact ⟨rfl, rfl⟩
  have hd : decide (n < 1) = false := by simpa using h1
  cases hn : nanW w
  case neg.true =>
    have HP := Lib.hid (show partV n w = 0 by unfold partV; rw [if_pos (Or.inr (Or.inl hn))])
    go_enter Tryz.func167, Tryz.ntmps167
    go_wp2_with (go_at_call 174; refine (isnan_any w W).mono ?_; rw [hn]; rintro e w' ⟨rfl, rfl⟩)
    go_ret
    rw [HP.out]
    exact ⟨rfl, rfl⟩
  by_cases h0 : key w ≤ 0
  · have HP := Lib.hid (show partV n w = 0 by unfold partV; rw [if_pos (Or.inr (Or.inr h0))])
    have hle : (FloatKind.f64.format.order w 0 == some .lt || FloatKind.f64.format.order w 0 == some .eq) = true := by
      rw [t_le]; unfold leF; rw [hn, nan_zero, key_zero, decide_eq_true h0]; rfl
    go_enter Tryz.func167, Tryz.ntmps167
    go_wp2_with (go_at_call 174; refine (isnan_any w W).mono ?_; rw [hn]; rintro e w' ⟨rfl, rfl⟩)
    go_ret
    rw [HP.out]
    exact ⟨rfl, rfl⟩
  have hle : (FloatKind.f64.format.order w 0 == some .lt || FloatKind.f64.format.order w 0 == some .eq) = false := by
    rw [t_le]; unfold leF; rw [hn, nan_zero, key_zero, decide_eq_false h0]; rfl
  have hnot : ¬ (n < 1 ∨ nanW w = true ∨ key w ≤ 0) := by
    rintro (x | x | x)
    · exact h1 x
    · rw [hn] at x; cases x
    · exact h0 x
  obtain ⟨k, hk⟩ : ∃ k : Nat, (k : Int) = min n (2 ^ 40) := ⟨(min n (2 ^ 40)).toNat, by omega⟩
  have hk1 : 1 ≤ k := by omega
  have hk2 : k ≤ 1099511627776 := by omega
  have hm : (n = (k : Int) ∧ decide ((1099511627776 : Int) < n) = false) ∨ ((1099511627776 : Int) = (k : Int) ∧ decide ((1099511627776 : Int) < n) = true) := by
    by_cases c : (1099511627776 : Int) < n
    · right; exact ⟨by omega, decide_eq_true c⟩
    · left; exact ⟨by omega, decide_eq_false c⟩
  by_cases hu : (U : Int) ≤ key w
  · have HP := Lib.hid (show partV n w = (k : Int) by unfold partV; rw [if_neg hnot, if_pos hu, hk])
    have hge : (FloatKind.f64.format.order w 4607182418800017408 == some .gt || FloatKind.f64.format.order w 4607182418800017408 == some .eq) = true := by
      rw [t_ge]; unfold geF; rw [hn, nan_one, key_one', decide_eq_true hu]; rfl
    clear hu h0 hnot hk
    rcases hm with ⟨hm, hc⟩ | ⟨hm, hc⟩
    all_goals
      have HM := Lib.hid hm
      clear hm
      go_enter Tryz.func167, Tryz.ntmps167
      go_wp2_with (go_at_call 174; refine (isnan_any w W).mono ?_; rw [hn]; rintro e w' ⟨rfl, rfl⟩)
      go_ret
      rw [HP.out, ← HM.out]
      exact ⟨rfl, rfl⟩
  · have hge : (FloatKind.f64.format.order w 4607182418800017408 == some .gt || FloatKind.f64.format.order w 4607182418800017408 == some .eq) = false := by
      rw [t_ge]; unfold geF; rw [hn, nan_one, key_one', decide_eq_false hu]; rfl
    obtain ⟨hs, hv⟩ := key_pos (w := w) (by omega)
    have hg : val (rg w) ≤ U := by omega
    have FM : ∀ m : Int, m = (k : Int) → ∀ W, (binOp .mul 24 (.float .f64 (floatOfInt .f64 m)) (.float .f64 w)).run Tryz.prog W = .ok (.float .f64 (prod k w)) W := by
      rintro m rfl W
      exact run_float_arith W _ _ _ _ _ _ (bits_mul hk1 (by omega) hs hg)
    have hconv : ∀ W, (convert 24 3 (.float .f64 (prod k w))).run Tryz.prog W = .ok (.int .i64 ((val (prod k w) / U : Nat) : Int)) W := fun W => run_convert_float_int W _ _ _ _ _ _ (by rw [Tryz.underlying24]; rfl) Tryz.underlying3 (prod_conv hk1 (by omega) hg)
    have FT : ∀ m : Int, m = (k : Int) → ∃ t : Bool, (FloatKind.f64.format.order (prod k w) (floatOfInt .f64 m) == some .gt || FloatKind.f64.format.order (prod k w) (floatOfInt .f64 m) == some .eq) = t ∧ (t = true → ((val (prod k w) / U : Nat) : Int) = m) := by
      rintro m rfl
      refine ⟨_, rfl, fun h => ?_⟩
      rw [t_ge, floatOf] at h
      unfold geF at h
      simp only [Bool.and_eq_true, decide_eq_true_eq] at h
      rw [prod_top hk1 (by omega) hg h.2]
    have HP := Lib.hid (show partV n w = ((val (prod k w) / U : Nat) : Int) by
      unfold partV; rw [if_neg hnot, if_neg hu, ← hk, Int.toNat_natCast])
    generalize prod k w = p at *
    generalize val p / U = q at *
    clear hu h0 hnot hk hs hv hg
    rcases hm with ⟨hm, hc⟩ | ⟨hm, hc⟩
    all_goals
      have hmul := FM _ hm
      obtain ⟨t, ht, htt⟩ := FT _ hm
      have HT := Lib.hid htt
      clear htt FM FT hm
      cases t
      · go_enter Tryz.func167, Tryz.ntmps167
        go_wp2_with (go_at_call 174; refine (isnan_any w W).mono ?_; rw [hn]; rintro e w' ⟨rfl, rfl⟩)
        go_ret
        rw [HP.out]
        exact ⟨rfl, rfl⟩
      · go_enter Tryz.func167, Tryz.ntmps167
        go_wp2_with (go_at_call 174; refine (isnan_any w W).mono ?_; rw [hn]; rintro e w' ⟨rfl, rfl⟩)
        go_ret
        rw [HP.out, HT.out trivial]
        exact ⟨rfl, rfl⟩
end Go.Proofs.YtmaohnbddlccdaaGreat.NR
end

/- Times, Share: the program's, and the document's; awake. -/
section
namespace Go.Proofs.YtmaohnbddlccdaaGreat.NR
open Ieee Go.RowKit Flo

def bnd (n : Int) : Int := min (max n 0) (2 ^ 30)
def shareV (m o : Int) (w : Nat) : Int := min (max (partV (bnd m + bnd o) w - bnd o) 0) (bnd m)
theorem bnd_range (n : Int) : 0 ≤ bnd n ∧ bnd n ≤ 1073741824 := by unfold bnd; omega
theorem part_range (n : Int) (w : Nat) : 0 ≤ partV n w ∧ partV n w ≤ 1099511627776 := by
  have := partV_range n w
  omega

theorem times_any (n : Int) (a b : Nat) (W : World) : Calls Tryz.prog 124 #[.int .i64 n, .float .f64 a, .float .f64 b] W fun e w' => e = .returned (.tuple #[.int .i64 (partV n a), .int .i64 (max (partV n a) (partV n b))]) ∧ W = w' := by
  have HA := Lib.hid (part_any n a W)
  have HB := Lib.hid (part_any n b W)
  generalize partV n a = x at *
  generalize partV n b = y at *
  go_enter Tryz.func124, Tryz.ntmps124
  go_wp2_with fail
  refine HA.out.mono ?_
  rintro e w' ⟨rfl, rfl⟩
  go_wp2_with fail
  refine HB.out.mono ?_
  rintro e w' ⟨rfl, rfl⟩
  go_wp2
  all_goals
    go_ret2
    refine ⟨?_, rfl⟩
    show Ending.returned (.tuple #[.int .i64 _, .int .i64 _]) = _
    congr 6
    omega

theorem rtimes_any (n : Int) (a b : Nat) (W : World) : Calls Tryz.prog 136 #[.int .i64 n, .float .f64 a, .float .f64 b] W fun e w' => e = .returned (.tuple #[.int .i64 (partV n a), .int .i64 (max (partV n a) (partV n b))]) ∧ W = w' := by
  have HA := Lib.hid (rpart_any n a W)
  have HB := Lib.hid (rpart_any n b W)
  generalize partV n a = x at *
  generalize partV n b = y at *
  go_enter Tryz.func136, Tryz.ntmps136
  go_wp2_with fail
  refine HA.out.mono ?_
  rintro e w' ⟨rfl, rfl⟩
  go_wp2_with fail
  refine HB.out.mono ?_
  rintro e w' ⟨rfl, rfl⟩
  go_wp2
  all_goals
    go_ret2
    refine ⟨?_, rfl⟩
    show Ending.returned (.tuple #[.int .i64 _, .int .i64 _]) = _
    congr 6
    omega

namespace Flo
theorem half_key : nanW 4602678819172646912 = false ∧ 0 < key 4602678819172646912 ∧ key 4602678819172646912 < U := by
  have e2 : rg 4602678819172646912 = 4602678819172646912 := by unfold rg; omega
  have e1 : sg 4602678819172646912 = false := by unfold sg; simp
  have a : val 4602678819172646912 < val (1023 * 2 ^ 52) := val_lt (by omega)
  have b : val 0 < val 4602678819172646912 := val_lt (by omega)
  rw [val_one] at a
  rw [val_zero] at b
  refine ⟨?_, ?_, ?_⟩
  · unfold nanW; rw [e2, D_inf]; exact decide_eq_false (by omega)
  · unfold key; rw [e1, e2]; simp only [Bool.false_eq_true, if_false]; omega
  · unfold key; rw [e1, e2]; simp only [Bool.false_eq_true, if_false]; omega

theorem pow_shift (a x y z : Nat) (h : x + y = z) : a * 2 ^ x * 2 ^ y = a * 2 ^ z := by rw [Nat.mul_assoc, ← Nat.pow_add, h]
theorem half7 : prod 7 4602678819172646912 = 4615063718147915776 := by decide +kernel
theorem half10 : prod 10 4602678819172646912 = 4617315517961601024 := by decide +kernel
theorem val35 : val 4615063718147915776 / U = 3 := by
  have e : val 4615063718147915776 = 7 * 2 ^ 1073 := by
    unfold val
    rewrite [if_neg (by omega)]
    have e1 : 2 ^ 52 + 4615063718147915776 % 2 ^ 52 = 7 * 2 ^ 50 := by omega
    have e2 : 4615063718147915776 / 2 ^ 52 - 1 = 1023 := by omega
    rewrite [e1, e2]
    exact pow_shift 7 50 1023 1073 (by omega)
  have u : U = 2 * 2 ^ 1073 := by
    rewrite [U_def, show 1074 = 1 + 1073 from rfl, Nat.pow_add 2 1 1073, show 2 ^ 1 = 2 from rfl]
    exact Eq.refl _
  rewrite [e, u, Nat.mul_div_mul_right 7 2 (Nat.two_pow_pos 1073)]
  exact Eq.refl _
theorem val5 : val 4617315517961601024 / U = 5 := by
  have e : val 4617315517961601024 = 5 * U := by
    unfold val
    rewrite [if_neg (by omega), U_def]
    have e1 : 2 ^ 52 + 4617315517961601024 % 2 ^ 52 = 5 * 2 ^ 50 := by omega
    have e2 : 4617315517961601024 / 2 ^ 52 - 1 = 1024 := by omega
    rewrite [e1, e2]
    exact pow_shift 5 50 1024 1074 (by omega)
  rewrite [e, Nat.mul_div_cancel _ U_pos]
  exact Eq.refl _

theorem half_part7 : partV 7 4602678819172646912 = 3 := by
  obtain ⟨h1, h2, h3⟩ := half_key
  unfold partV
  rw [if_neg (by rw [h1]; rintro (x | x | x) <;> first | omega | cases x), if_neg (by omega), show (min (7 : Int) (2 ^ 40)).toNat = 7 from rfl, half7, val35]
  rfl
theorem half_part10 : partV 10 4602678819172646912 = 5 := by
  obtain ⟨h1, h2, h3⟩ := half_key
  unfold partV
  rw [if_neg (by rw [h1]; rintro (x | x | x) <;> first | omega | cases x), if_neg (by omega), show (min (10 : Int) (2 ^ 40)).toNat = 10 from rfl, half10, val5]
  rfl
theorem half_share : shareV 10 0 4602678819172646912 = 5 := by
  unfold shareV
  rw [show bnd 10 + bnd 0 = 10 from rfl, half_part10]
  rfl
end Flo

end Go.Proofs.YtmaohnbddlccdaaGreat.NR
end
