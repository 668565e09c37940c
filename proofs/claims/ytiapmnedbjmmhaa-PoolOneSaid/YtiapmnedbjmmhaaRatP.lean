/- The part of a number: the program's, and the document's. -/
import Derived.Test.YtiapmnedbjmmhaaFloW
namespace Go.Proofs.Ytiapmnedbjmmhaa
open Ieee Go.RowKit Flo

theorem part_any (n : Int) (w : Nat) (W : World) : Calls Try.prog 28 #[.int .i64 n, .float .f64 w] W fun e w' => e = .returned (.int .i64 (partV n w)) ∧ W = w' := by
  by_cases h1 : n < 1
  · have hd : decide (n < 1) = true := by simpa using h1
    go_enter Try.func28, Try.ntmps28
    go_wp2
    go_ret
    have : partV n w = 0 := by unfold partV; rw [if_pos (Or.inl h1)]
    rw [this]
    exact ⟨rfl, rfl⟩
  have hd : decide (n < 1) = false := by simpa using h1
  cases hn : nanW w
  case neg.true =>
    have HP := Lib.hid (show partV n w = 0 by unfold partV; rw [if_pos (Or.inr (Or.inl hn))])
    go_enter Try.func28, Try.ntmps28
    go_wp2_with (go_at_call 30; refine (isnan_any w W).mono ?_; rw [hn]; rintro e w' ⟨rfl, rfl⟩)
    go_ret
    rw [HP.out]
    exact ⟨rfl, rfl⟩
  by_cases h0 : key w ≤ 0
  · have HP := Lib.hid (show partV n w = 0 by unfold partV; rw [if_pos (Or.inr (Or.inr h0))])
    have hle : (FloatKind.f64.format.order w 0 == some .lt || FloatKind.f64.format.order w 0 == some .eq) = true := by
      rw [t_le]; unfold leF; rw [hn, nan_zero, key_zero, decide_eq_true h0]; rfl
    go_enter Try.func28, Try.ntmps28
    go_wp2_with (go_at_call 30; refine (isnan_any w W).mono ?_; rw [hn]; rintro e w' ⟨rfl, rfl⟩)
    go_ret
    rw [HP.out]
    exact ⟨rfl, rfl⟩
  have hle : (FloatKind.f64.format.order w 0 == some .lt || FloatKind.f64.format.order w 0 == some .eq) = false := by
    rw [t_le]; unfold leF; rw [hn, nan_zero, key_zero, decide_eq_false h0]; rfl
  have hnot : ¬ (n < 1 ∨ nanW w = true ∨ key w ≤ 0) := by
    rintro (x | x | x)
    · exact h1 x
    · rw [hn] at x; cases x
    · exact h0 x
  obtain ⟨k, hk⟩ : ∃ k : Nat, (k : Int) = min n (2 ^ 40) := ⟨(min n (2 ^ 40)).toNat, by omega⟩
  have hmin : (if (1099511627776 : Int) < n then 1099511627776 else n) = (k : Int) := by rw [hk]; split <;> omega
  have hk1 : 1 ≤ k := by omega
  have hk2 : k ≤ 1099511627776 := by omega
  by_cases hu : (U : Int) ≤ key w
  · have HP := Lib.hid (show partV n w = (k : Int) by unfold partV; rw [if_neg hnot, if_pos hu, hk])
    have hge : (FloatKind.f64.format.order w 4607182418800017408 == some .gt || FloatKind.f64.format.order w 4607182418800017408 == some .eq) = true := by
      rw [t_ge]; unfold geF; rw [hn, nan_one, key_one', decide_eq_true hu]; rfl
    clear hu h0 hnot hk
    go_enter Try.func28, Try.ntmps28
    go_wp2_with (go_at_call 30; refine (isnan_any w W).mono ?_; rw [hn]; rintro e w' ⟨rfl, rfl⟩)
    go_ret
    rw [HP.out]
    exact ⟨rfl, rfl⟩
  · have hge : (FloatKind.f64.format.order w 4607182418800017408 == some .gt || FloatKind.f64.format.order w 4607182418800017408 == some .eq) = false := by
      rw [t_ge]; unfold geF; rw [hn, nan_one, key_one', decide_eq_false hu]; rfl
    obtain ⟨hs, hv⟩ := key_pos (w := w) (by omega)
    have hg : val (rg w) ≤ U := by omega
    have hmul : ∀ W, (binOp .mul 22 (.float .f64 (floatOfInt .f64 (k : Int))) (.float .f64 w)).run Try.prog W = .ok (.float .f64 (prod k w)) W := fun W => run_float_arith W _ _ _ _ _ _ (bits_mul hk1 (by omega) hs hg)
    have hconv : ∀ W, (convert 22 3 (.float .f64 (prod k w))).run Try.prog W = .ok (.int .i64 ((val (prod k w) / U : Nat) : Int)) W := fun W => run_convert_float_int W _ _ _ _ _ _ (by rw [Try.underlying22]; rfl) Try.underlying3 (prod_conv hk1 (by omega) hg)
    have hcut := prod_cut (k := k) (w := w) hk1 (by omega) hg
    have HP := Lib.hid (show partV n w = ((val (prod k w) / U : Nat) : Int) by
      unfold partV; rw [if_neg hnot, if_neg hu, ← hk, Int.toNat_natCast])
    generalize prod k w = p at *
    generalize val p / U = q at *
    clear hu h0 hnot hk hs hv hg
    go_enter Try.func28, Try.ntmps28
    go_wp2_with (go_at_call 30; refine (isnan_any w W).mono ?_; rw [hn]; rintro e w' ⟨rfl, rfl⟩)
    go_ret
    rw [HP.out]
    exact ⟨rfl, rfl⟩

/- The document's. -/
theorem rpart_any (n : Int) (w : Nat) (W : World) : Calls Try.prog 21 #[.int .i64 n, .float .f64 w] W fun e w' => e = .returned (.int .i64 (partV n w)) ∧ W = w' := by
  by_cases h1 : n < 1
  · have hd : decide (n < 1) = true := by simpa using h1
    go_enter Try.func21, Try.ntmps21
    go_wp2
    go_ret
    have : partV n w = 0 := by unfold partV; rw [if_pos (Or.inl h1)]
    rw [this]
    exact ⟨rfl, rfl⟩
  have hd : decide (n < 1) = false := by simpa using h1
  cases hn : nanW w
  case neg.true =>
    have HP := Lib.hid (show partV n w = 0 by unfold partV; rw [if_pos (Or.inr (Or.inl hn))])
    go_enter Try.func21, Try.ntmps21
    go_wp2_with (go_at_call 30; refine (isnan_any w W).mono ?_; rw [hn]; rintro e w' ⟨rfl, rfl⟩)
    go_ret
    rw [HP.out]
    exact ⟨rfl, rfl⟩
  by_cases h0 : key w ≤ 0
  · have HP := Lib.hid (show partV n w = 0 by unfold partV; rw [if_pos (Or.inr (Or.inr h0))])
    have hle : (FloatKind.f64.format.order w 0 == some .lt || FloatKind.f64.format.order w 0 == some .eq) = true := by
      rw [t_le]; unfold leF; rw [hn, nan_zero, key_zero, decide_eq_true h0]; rfl
    go_enter Try.func21, Try.ntmps21
    go_wp2_with (go_at_call 30; refine (isnan_any w W).mono ?_; rw [hn]; rintro e w' ⟨rfl, rfl⟩)
    go_ret
    rw [HP.out]
    exact ⟨rfl, rfl⟩
  have hle : (FloatKind.f64.format.order w 0 == some .lt || FloatKind.f64.format.order w 0 == some .eq) = false := by
    rw [t_le]; unfold leF; rw [hn, nan_zero, key_zero, decide_eq_false h0]; rfl
  have hnot : ¬ (n < 1 ∨ nanW w = true ∨ key w ≤ 0) := by
    rintro (x | x | x)
    · exact h1 x
    · rw [hn] at x; cases x
    · exact h0 x
  obtain ⟨k, hk⟩ : ∃ k : Nat, (k : Int) = min n (2 ^ 40) := ⟨(min n (2 ^ 40)).toNat, by omega⟩
  have hk1 : 1 ≤ k := by omega
  have hk2 : k ≤ 1099511627776 := by omega
  have hm : (n = (k : Int) ∧ decide ((1099511627776 : Int) < n) = false) ∨ ((1099511627776 : Int) = (k : Int) ∧ decide ((1099511627776 : Int) < n) = true) := by
    by_cases c : (1099511627776 : Int) < n
    · right; exact ⟨by omega, decide_eq_true c⟩
    · left; exact ⟨by omega, decide_eq_false c⟩
  by_cases hu : (U : Int) ≤ key w
  · have HP := Lib.hid (show partV n w = (k : Int) by unfold partV; rw [if_neg hnot, if_pos hu, hk])
    have hge : (FloatKind.f64.format.order w 4607182418800017408 == some .gt || FloatKind.f64.format.order w 4607182418800017408 == some .eq) = true := by
      rw [t_ge]; unfold geF; rw [hn, nan_one, key_one', decide_eq_true hu]; rfl
    clear hu h0 hnot hk
    rcases hm with ⟨hm, hc⟩ | ⟨hm, hc⟩
    all_goals
      have HM := Lib.hid hm
      clear hm
      go_enter Try.func21, Try.ntmps21
      go_wp2_with (go_at_call 30; refine (isnan_any w W).mono ?_; rw [hn]; rintro e w' ⟨rfl, rfl⟩)
      go_ret
      rw [HP.out, ← HM.out]
      exact ⟨rfl, rfl⟩
  · have hge : (FloatKind.f64.format.order w 4607182418800017408 == some .gt || FloatKind.f64.format.order w 4607182418800017408 == some .eq) = false := by
      rw [t_ge]; unfold geF; rw [hn, nan_one, key_one', decide_eq_false hu]; rfl
    obtain ⟨hs, hv⟩ := key_pos (w := w) (by omega)
    have hg : val (rg w) ≤ U := by omega
    have FM : ∀ m : Int, m = (k : Int) → ∀ W, (binOp .mul 22 (.float .f64 (floatOfInt .f64 m)) (.float .f64 w)).run Try.prog W = .ok (.float .f64 (prod k w)) W := by
      rintro m rfl W
      exact run_float_arith W _ _ _ _ _ _ (bits_mul hk1 (by omega) hs hg)
    have hconv : ∀ W, (convert 22 3 (.float .f64 (prod k w))).run Try.prog W = .ok (.int .i64 ((val (prod k w) / U : Nat) : Int)) W := fun W => run_convert_float_int W _ _ _ _ _ _ (by rw [Try.underlying22]; rfl) Try.underlying3 (prod_conv hk1 (by omega) hg)
    have FT : ∀ m : Int, m = (k : Int) → ∃ t : Bool, (FloatKind.f64.format.order (prod k w) (floatOfInt .f64 m) == some .gt || FloatKind.f64.format.order (prod k w) (floatOfInt .f64 m) == some .eq) = t ∧ (t = true → ((val (prod k w) / U : Nat) : Int) = m) := by
      rintro m rfl
      refine ⟨_, rfl, fun h => ?_⟩
      rw [t_ge, floatOf] at h
      unfold geF at h
      simp only [Bool.and_eq_true, decide_eq_true_eq] at h
      rw [prod_top hk1 (by omega) hg h.2]
    have HP := Lib.hid (show partV n w = ((val (prod k w) / U : Nat) : Int) by
      unfold partV; rw [if_neg hnot, if_neg hu, ← hk, Int.toNat_natCast])
    generalize prod k w = p at *
    generalize val p / U = q at *
    clear hu h0 hnot hk hs hv hg
    rcases hm with ⟨hm, hc⟩ | ⟨hm, hc⟩
    all_goals
      have hmul := FM _ hm
      obtain ⟨t, ht, htt⟩ := FT _ hm
      have HT := Lib.hid htt
      clear htt FM FT hm
      cases t
      · go_enter Try.func21, Try.ntmps21
        go_wp2_with (go_at_call 30; refine (isnan_any w W).mono ?_; rw [hn]; rintro e w' ⟨rfl, rfl⟩)
        go_ret
        rw [HP.out]
        exact ⟨rfl, rfl⟩
      · go_enter Try.func21, Try.ntmps21
        go_wp2_with (go_at_call 30; refine (isnan_any w W).mono ?_; rw [hn]; rintro e w' ⟨rfl, rfl⟩)
        go_ret
        rw [HP.out, HT.out trivial]
        exact ⟨rfl, rfl⟩
end Go.Proofs.Ytiapmnedbjmmhaa
