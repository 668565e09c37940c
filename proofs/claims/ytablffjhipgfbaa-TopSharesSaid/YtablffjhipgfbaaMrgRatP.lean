/- Joined texts: RatP, RatT, RatV. -/
import Derived.Test.YtablffjhipgfbaaMrgRowNum

/- The part of a number: the program's, and the document's. -/
section
namespace Go.Proofs.Ytablffjhipgfbaa
open Ieee Go.RowKit Flo

theorem part_any (n : Int) (w : Nat) (W : World) : Calls Try.prog 47 #[.int .i64 n, .float .f64 w] W fun e w' => e = .returned (.int .i64 (partV n w)) ∧ W = w' := by
  by_cases h1 : n < 1
  · have hd : decide (n < 1) = true := by simpa using h1
    go_enter Try.func47, Try.ntmps47
    go_wp2
    go_ret
    have : partV n w = 0 := by unfold partV; rw [if_pos (Or.inl h1)]
    rw [this]
    exact ⟨rfl, rfl⟩
  have hd : decide (n < 1) = false := by simpa using h1
  cases hn : nanW w
  case neg.true =>
    have HP := Lib.hid (show partV n w = 0 by unfold partV; rw [if_pos (Or.inr (Or.inl hn))])
    go_enter Try.func47, Try.ntmps47
    go_wp2_with (go_at_call 63; refine (isnan_any w W).mono ?_; rw [hn]; rintro e w' ⟨rfl, rfl⟩)
    go_ret
    rw [HP.out]
    exact ⟨rfl, rfl⟩
  by_cases h0 : key w ≤ 0
  · have HP := Lib.hid (show partV n w = 0 by unfold partV; rw [if_pos (Or.inr (Or.inr h0))])
    have hle : (FloatKind.f64.format.order w 0 == some .lt || FloatKind.f64.format.order w 0 == some .eq) = true := by
      rw [t_le]; unfold leF; rw [hn, nan_zero, key_zero, decide_eq_true h0]; rfl
    go_enter Try.func47, Try.ntmps47
    go_wp2_with (go_at_call 63; refine (isnan_any w W).mono ?_; rw [hn]; rintro e w' ⟨rfl, rfl⟩)
    go_ret
    rw [HP.out]
    exact ⟨rfl, rfl⟩
  have hle : (FloatKind.f64.format.order w 0 == some .lt || FloatKind.f64.format.order w 0 == some .eq) = false := by
    rw [t_le]; unfold leF; rw [hn, nan_zero, key_zero, decide_eq_false h0]; rfl
  have hnot : ¬ (n < 1 ∨ nanW w = true ∨ key w ≤ 0) := by
    rintro (x | x | x)
    · exact h1 x
    · rw [hn] at x; cases x
    · exact h0 x
  obtain ⟨k, hk⟩ : ∃ k : Nat, (k : Int) = min n (2 ^ 40) := ⟨(min n (2 ^ 40)).toNat, by omega⟩
  have hmin : (if (1099511627776 : Int) < n then 1099511627776 else n) = (k : Int) := by rw [hk]; split <;> omega
  have hk1 : 1 ≤ k := by omega
  have hk2 : k ≤ 1099511627776 := by omega
  by_cases hu : (U : Int) ≤ key w
  · have HP := Lib.hid (show partV n w = (k : Int) by unfold partV; rw [if_neg hnot, if_pos hu, hk])
    have hge : (FloatKind.f64.format.order w 4607182418800017408 == some .gt || FloatKind.f64.format.order w 4607182418800017408 == some .eq) = true := by
      rw [t_ge]; unfold geF; rw [hn, nan_one, key_one', decide_eq_true hu]; rfl
    clear hu h0 hnot hk
    go_enter Try.func47, Try.ntmps47
    go_wp2_with (go_at_call 63; refine (isnan_any w W).mono ?_; rw [hn]; rintro e w' ⟨rfl, rfl⟩)
    go_ret
    rw [HP.out]
    exact ⟨rfl, rfl⟩
  · have hge : (FloatKind.f64.format.order w 4607182418800017408 == some .gt || FloatKind.f64.format.order w 4607182418800017408 == some .eq) = false := by
      rw [t_ge]; unfold geF; rw [hn, nan_one, key_one', decide_eq_false hu]; rfl
    obtain ⟨hs, hv⟩ := key_pos (w := w) (by omega)
    have hg : val (rg w) ≤ U := by omega
    have hmul : ∀ W, (binOp .mul 22 (.float .f64 (floatOfInt .f64 (k : Int))) (.float .f64 w)).run Try.prog W = .ok (.float .f64 (prod k w)) W := fun W => run_float_arith W _ _ _ _ _ _ (bits_mul hk1 (by omega) hs hg)
    have hconv : ∀ W, (convert 22 3 (.float .f64 (prod k w))).run Try.prog W = .ok (.int .i64 ((val (prod k w) / U : Nat) : Int)) W := fun W => run_convert_float_int W _ _ _ _ _ _ (by rw [Try.underlying22]; rfl) Try.underlying3 (prod_conv hk1 (by omega) hg)
    have hcut := prod_cut (k := k) (w := w) hk1 (by omega) hg
    have HP := Lib.hid (show partV n w = ((val (prod k w) / U : Nat) : Int) by
      unfold partV; rw [if_neg hnot, if_neg hu, ← hk, Int.toNat_natCast])
    generalize prod k w = p at *
    generalize val p / U = q at *
    clear hu h0 hnot hk hs hv hg
    go_enter Try.func47, Try.ntmps47
    go_wp2_with (go_at_call 63; refine (isnan_any w W).mono ?_; rw [hn]; rintro e w' ⟨rfl, rfl⟩)
    go_ret
    rw [HP.out]
    exact ⟨rfl, rfl⟩

end Go.Proofs.Ytablffjhipgfbaa
end

/- Times, Share: the program's, and the document's; awake. -/
section
namespace Go.Proofs.Ytablffjhipgfbaa
open Ieee Go.RowKit Flo

def bnd (n : Int) : Int := min (max n 0) (2 ^ 30)
def shareV (m o : Int) (w : Nat) : Int := min (max (partV (bnd m + bnd o) w - bnd o) 0) (bnd m)
theorem bnd_range (n : Int) : 0 ≤ bnd n ∧ bnd n ≤ 1073741824 := by unfold bnd; omega
theorem part_range (n : Int) (w : Nat) : 0 ≤ partV n w ∧ partV n w ≤ 1099511627776 := by
  have := partV_range n w
  omega

theorem shared_any (n : Int) (W : World) : Calls Try.prog 46 #[.int .i64 n] W fun e w' => e = .returned (.int .i64 (bnd n)) ∧ W = w' := by
  go_enter Try.func46, Try.ntmps46
  go_wp2
  all_goals
    go_ret
    refine ⟨?_, rfl⟩
    show Ending.returned (.int .i64 _) = _
    congr 2
    unfold bnd
    omega

theorem share_any (m o : Int) (w : Nat) (W : World) : Calls Try.prog 31 #[.int .i64 m, .int .i64 o, .float .f64 w] W fun e w' => e = .returned (.int .i64 (shareV m o w)) ∧ W = w' := by
  have HM := Lib.hid (fun V => shared_any m V)
  have HO := Lib.hid (fun V => shared_any o V)
  have HP := Lib.hid (fun V => part_any (bnd m + bnd o) w V)
  have HS := Lib.hid (show shareV m o w = min (max (partV (bnd m + bnd o) w - bnd o) 0) (bnd m) from rfl)
  obtain ⟨a0, a1⟩ := bnd_range m
  obtain ⟨b0, b1⟩ := bnd_range o
  obtain ⟨c0, c1⟩ := part_range (bnd m + bnd o) w
  generalize partV (bnd m + bnd o) w = x at *
  generalize bnd m = a at *
  generalize bnd o = b at *
  go_enter Try.func31, Try.ntmps31
  go_wp2_with fail
  refine (HM.out _).mono ?_
  rintro e w' ⟨rfl, rfl⟩
  go_wp2_with fail
  refine (HO.out _).mono ?_
  rintro e w' ⟨rfl, rfl⟩
  go_wp2_with fail
  refine (HP.out _).mono ?_
  rintro e w' ⟨rfl, rfl⟩
  go_wp2
  all_goals
    go_ret
    refine ⟨?_, rfl⟩
    rw [HS.out]
    show Ending.returned (.int .i64 _) = _
    congr 2
    omega

namespace Flo
theorem half_key : nanW 4602678819172646912 = false ∧ 0 < key 4602678819172646912 ∧ key 4602678819172646912 < U := by
  have e2 : rg 4602678819172646912 = 4602678819172646912 := by unfold rg; omega
  have e1 : sg 4602678819172646912 = false := by unfold sg; simp
  have a : val 4602678819172646912 < val (1023 * 2 ^ 52) := val_lt (by omega)
  have b : val 0 < val 4602678819172646912 := val_lt (by omega)
  rw [val_one] at a
  rw [val_zero] at b
  refine ⟨?_, ?_, ?_⟩
  · unfold nanW; rw [e2, D_inf]; exact decide_eq_false (by omega)
  · unfold key; rw [e1, e2]; simp only [Bool.false_eq_true, if_false]; omega
  · unfold key; rw [e1, e2]; simp only [Bool.false_eq_true, if_false]; omega

theorem pow_shift (a x y z : Nat) (h : x + y = z) : a * 2 ^ x * 2 ^ y = a * 2 ^ z := by rw [Nat.mul_assoc, ← Nat.pow_add, h]
theorem half7 : prod 7 4602678819172646912 = 4615063718147915776 := by decide +kernel
theorem half10 : prod 10 4602678819172646912 = 4617315517961601024 := by decide +kernel
theorem val35 : val 4615063718147915776 / U = 3 := by
  have e : val 4615063718147915776 = 7 * 2 ^ 1073 := by
    unfold val
    rewrite [if_neg (by omega)]
    have e1 : 2 ^ 52 + 4615063718147915776 % 2 ^ 52 = 7 * 2 ^ 50 := by omega
    have e2 : 4615063718147915776 / 2 ^ 52 - 1 = 1023 := by omega
    rewrite [e1, e2]
    exact pow_shift 7 50 1023 1073 (by omega)
  have u : U = 2 * 2 ^ 1073 := by
    rewrite [U_def, show 1074 = 1 + 1073 from rfl, Nat.pow_add 2 1 1073, show 2 ^ 1 = 2 from rfl]
    exact Eq.refl _
  rewrite [e, u, Nat.mul_div_mul_right 7 2 (Nat.two_pow_pos 1073)]
  exact Eq.refl _
theorem val5 : val 4617315517961601024 / U = 5 := by
  have e : val 4617315517961601024 = 5 * U := by
    unfold val
    rewrite [if_neg (by omega), U_def]
    have e1 : 2 ^ 52 + 4617315517961601024 % 2 ^ 52 = 5 * 2 ^ 50 := by omega
    have e2 : 4617315517961601024 / 2 ^ 52 - 1 = 1024 := by omega
    rewrite [e1, e2]
    exact pow_shift 5 50 1024 1074 (by omega)
  rewrite [e, Nat.mul_div_cancel _ U_pos]
  exact Eq.refl _

theorem half_part7 : partV 7 4602678819172646912 = 3 := by
  obtain ⟨h1, h2, h3⟩ := half_key
  unfold partV
  rw [if_neg (by rw [h1]; rintro (x | x | x) <;> first | omega | cases x), if_neg (by omega), show (min (7 : Int) (2 ^ 40)).toNat = 7 from rfl, half7, val35]
  rfl
theorem half_part10 : partV 10 4602678819172646912 = 5 := by
  obtain ⟨h1, h2, h3⟩ := half_key
  unfold partV
  rw [if_neg (by rw [h1]; rintro (x | x | x) <;> first | omega | cases x), if_neg (by omega), show (min (10 : Int) (2 ^ 40)).toNat = 10 from rfl, half10, val5]
  rfl
theorem half_share : shareV 10 0 4602678819172646912 = 5 := by
  unfold shareV
  rw [show bnd 10 + bnd 0 = 10 from rfl, half_part10]
  rfl
end Flo

end Go.Proofs.Ytablffjhipgfbaa
end

/- How uneven two numbers are, as a function of theirs and the word (unW); the program's and the document's, which stand at one place on the line. (For seats of package pool; stage 5's is RatU.) -/
section
namespace Go.Proofs.Ytablffjhipgfbaa
open Ieee Go.RowKit Flo
namespace Flo

abbrev ONE : Nat := 4607182418800017408
/-- The lesser one of a rung and one. -/
def unV (r : Nat) : Nat := if U ≤ val r then ONE else r

theorem rg_small {r : Nat} (h : r < 2 ^ 63) : rg r = r ∧ sg r = false := by
  unfold rg sg
  refine ⟨Nat.mod_eq_of_lt h, ?_⟩
  have : r / 2 ^ 63 % 2 = 0 := by omega
  rw [this]; rfl
theorem key_small {r : Nat} (h : r < 2 ^ 63) : key r = val r := by
  obtain ⟨a, b⟩ := rg_small h
  unfold key; rw [a, b]; rfl
theorem word_small {b : Nat} (h : b < 2 ^ 64) (hs : sg b = false) : rg b = b := by
  unfold sg at hs
  unfold rg
  have : ¬ (b / 2 ^ 63 % 2 = 1) := by simpa using hs
  omega
theorem rg_lt (b : Nat) : rg b < 2 ^ 63 := Nat.mod_lt _ (Nat.two_pow_pos 63)
theorem nan_rg (b : Nat) : nanW (rg b) = nanW b := by unfold nanW; rw [(rg_small (rg_lt b)).1]
theorem val_inj {r s : Nat} (h : val r = val s) : r = s := by
  have a := (val_le_iff (r := r) (s := s)).1 (by omega)
  have b := (val_le_iff (r := s) (s := r)).1 (by omega)
  omega
theorem val_ONE : val ONE = U := by rw [show ONE = 1023 * 2 ^ 52 from one_def]; exact val_one

theorem unV_le {r : Nat} (h : val r ≤ U) : unV r = r := by
  unfold unV
  split
  · exact (val_inj (by rw [val_ONE]; omega)).symm
  · rfl
theorem unV_gt {r : Nat} (h : U < val r) : unV r = ONE := by unfold unV; exact if_pos (by omega)

theorem min_run {P : Program} (ats : Array TypeId) (t : TypeId) (r : Nat) (h : r < 2 ^ 63) (hn : nanW r = false) (W : World) :
    (Builtin.min_ ats t #[.float .f64 r, .float .f64 ONE]).run P W = .ok (.float .f64 (unV r)) W := by
  have e : (Builtin.min_ ats t #[.float .f64 r, .float .f64 ONE]).run P W = (Builtin.min2 (.float .f64 r) (.float .f64 ONE)).run P W := by
    simp [Builtin.min_]
  rw [e]
  have o := order_keys r ONE hn nan_one
  rw [key_small h, key_one'] at o
  have hr : (FloatKind.f64.decode r).neg = false := by
    unfold FloatKind.decode
    rw [fmt, read_word, (rg_small h).1, (rg_small h).2]
    split
    · rfl
    · split <;> rfl
  rcases Int.lt_trichotomy (val r : Int) (U : Int) with c | c | c
  · have u : unV r = r := by unfold unV; exact if_neg (by omega)
    rw [Int.compare_eq_lt.2 c] at o
    rw [u]; unfold Builtin.min2; simp only [fmt, o]; rfl
  · have u : unV r = ONE := by unfold unV; exact if_pos (by omega)
    rw [Int.compare_eq_eq.2 c] at o
    rw [u]; unfold Builtin.min2; simp only [fmt, o, hr]; rfl
  · have u : unV r = ONE := by unfold unV; exact if_pos (by omega)
    rw [Int.compare_eq_gt.2 c] at o
    rw [u]; unfold Builtin.min2; simp only [fmt, o]; rfl

theorem add_minus : D.add (2 ^ 63) 0 = D.add 0 0 := by decide +kernel
theorem neg_lt {s : Nat} (h : s < 2 ^ 64) : Op.negFloat .f64 s < 2 ^ 64 := by
  unfold Op.negFloat
  rw [fmt]
  exact Nat.xor_lt_two_pow h (by decide)

theorem unary_neg_float (b : Nat) : Op.unary .neg (.float .f64 b) = pure (.float .f64 (Op.negFloat .f64 b)) := rfl
end Flo
attribute [local go_sem] unary_neg_float

/-- How uneven two numbers within the bounds are. -/
def Flo.unB (a b : Int) (w : Nat) : Nat := if a + b = 0 then 0 else if nanW w = true then ONE else unV (rg ((D.sub ((D.div (whole b.toNat) (whole (a + b).toNat)).getD 0) w).getD 0))
def unW (m o : Int) (w : Nat) : Nat := unB (bnd m) (bnd o) w
/-- Both stand at one place on the line. -/
def SameK (X Y : Nat) : Prop := nanW X = false ∧ nanW Y = false ∧ key X = key Y
theorem SameK.gt {X Y : Nat} (h : SameK X Y) (s : Nat) : gtF Y s = gtF X s := by
  unfold gtF
  rw [h.1, h.2.1, h.2.2]

theorem uneven_any (m o : Int) (w : Nat) (W : World) : Calls Try.prog 45 #[.int .i64 m, .int .i64 o, .float .f64 w] W fun e w' => e = .returned (.float .f64 (unW m o w)) ∧ W = w' := by
  have HM := Lib.hid (fun V => shared_any m V)
  have HO := Lib.hid (fun V => shared_any o V)
  obtain ⟨a0, a1⟩ := bnd_range m
  obtain ⟨b0, b1⟩ := bnd_range o
  unfold unW
  generalize bnd m = a at *
  generalize bnd o = b at *
  by_cases hz : a + b = 0
  · rw [show unB a b w = 0 from if_pos hz]
    · go_enter Try.func45, Try.ntmps45
      go_wp2_with fail
      refine (HM.out _).mono ?_
      rintro e w' ⟨rfl, rfl⟩
      go_wp2_with fail
      refine (HO.out _).mono ?_
      rintro e w' ⟨rfl, rfl⟩
      go_wp2
      go_ret
      exact ⟨rfl, rfl⟩
  cases hn : nanW w
  case neg.true =>
    have HN := Lib.hid (fun V => isnan_any w V)
    rw [hn] at HN
    rw [show unB a b w = ONE by unfold unB; rw [if_neg hz, if_pos hn]]
    · go_enter Try.func45, Try.ntmps45
      go_wp2_with fail
      refine (HM.out _).mono ?_
      rintro e w' ⟨rfl, rfl⟩
      go_wp2_with fail
      refine (HO.out _).mono ?_
      rintro e w' ⟨rfl, rfl⟩
      go_wp2_with fail
      refine (HN.out _).mono ?_
      rintro e w' ⟨rfl, rfl⟩
      go_wp2
      go_ret
      exact ⟨rfl, rfl⟩
  have HN := Lib.hid (fun V => isnan_any w V)
  rw [hn] at HN
  obtain ⟨k, rfl⟩ := Int.eq_ofNat_of_zero_le b0
  obtain ⟨l, hl⟩ : ∃ l : Nat, a + (k : Int) = l := Int.eq_ofNat_of_zero_le (by omega)
  obtain ⟨q, hq, hqs, hqv⟩ := div_part (k := k) (l := l) (by omega) (by omega) (by omega)
  obtain ⟨s, hs, hsn⟩ := sub_fin (x := q) (y := w) (small_fin hqv) hn
  have hs64 : s < 2 ^ 64 := Format.sub_lt D hs
  rw [show unB a (k : Int) w = unV (rg s) by unfold unB; rw [if_neg hz, if_neg (by rw [hn]; exact Bool.false_ne_true), Int.toNat_natCast, hl, Int.toNat_natCast, hq, Option.getD_some, hs, Option.getD_some]]
  have hdiv : ∀ W, (binOp .quo 22 (.float .f64 (floatOfInt .f64 (k : Int))) (.float .f64 (floatOfInt .f64 (l : Int)))).run Try.prog W = .ok (.float .f64 q) W := by
    intro W
    exact run_float_arith W _ _ _ _ _ _ (by rw [floatOf, floatOf]; exact hq)
  have hsub : ∀ W, (binOp .sub 22 (.float .f64 q) (.float .f64 w)).run Try.prog W = .ok (.float .f64 s) W :=
    fun W => run_float_arith W _ _ _ _ _ _ hs
  have HR := rg_lt s
  have HL := rg_lt s
  have hnr : nanW (rg s) = false := by rw [nan_rg]; exact hsn
  have hmin : ∀ ats t W, (Builtin.min_ ats t #[.float .f64 (rg s), .float .f64 4607182418800017408]).run Try.prog W = .ok (.float .f64 (unV (rg s))) W :=
    fun ats t W => min_run ats t (rg s) HL hnr W
  have HABS := Lib.hid (fun V => abs_call s hs64 V)
  have hXn : nanW (unV (rg s)) = false := by unfold unV; split; exact nan_one; exact hnr
  clear hXn hnr HL HR hs64 hs hsn hq hqs hqv hn
  generalize unV (rg s) = X at *
  generalize rg s = z at *
  go_enter Try.func45, Try.ntmps45
  go_wp2_with fail
  refine (HM.out _).mono ?_
  rintro e w' ⟨rfl, rfl⟩
  go_wp2_with fail
  refine (HO.out _).mono ?_
  rintro e w' ⟨rfl, rfl⟩
  go_wp2_with fail
  refine (HN.out _).mono ?_
  rintro e w' ⟨rfl, rfl⟩
  go_wp2_with fail
  refine (HABS.out _).mono ?_
  rintro e w' ⟨rfl, rfl⟩
  go_wp2
  go_ret
  exact ⟨rfl, rfl⟩

namespace Flo
abbrev HALF : Nat := 4602678819172646912
abbrev TENTH : Nat := 4591870180066957722
theorem key_lt {r s : Nat} (hr : r < 2 ^ 63) (hs : s < 2 ^ 63) (h : s < r) : key s < key r := by
  rw [key_small hr, key_small hs]
  have : ¬ val r ≤ val s := fun h' => absurd ((val_le_iff (r := r) (s := s)).1 h') (by omega)
  omega
theorem un_10_0 : unB 10 0 HALF = HALF := by
  have hd : D.div (whole 0) (whole 10) = some 0 := by decide +kernel
  have hs : D.sub 0 HALF = some (HALF + 2 ^ 63) := by decide +kernel
  have hr : rg (HALF + 2 ^ 63) = HALF := by decide +kernel
  have hn : ¬ nanW HALF = true := by rw [half_key.1]; exact Bool.false_ne_true
  unfold unB
  rw [if_neg (by decide), if_neg hn, show (0 : Int).toNat = 0 from rfl, show (10 + 0 : Int).toNat = 10 from rfl, hd, Option.getD_some, hs, Option.getD_some, hr]
  have h := half_key.2.2
  rw [key_small (by decide)] at h
  exact unV_le (by show val 4602678819172646912 ≤ U; omega)
theorem un_0_10 : unB 0 10 HALF = HALF := by
  have hd : D.div (whole 10) (whole 10) = some ONE := by decide +kernel
  have hs : D.sub ONE HALF = some HALF := by decide +kernel
  have hr : rg HALF = HALF := by decide +kernel
  have hn : ¬ nanW HALF = true := by rw [half_key.1]; exact Bool.false_ne_true
  unfold unB
  rw [if_neg (by decide), if_neg hn, show (10 : Int).toNat = 10 from rfl, show (0 + 10 : Int).toNat = 10 from rfl, hd, Option.getD_some, hs, Option.getD_some, hr]
  have h := half_key.2.2
  rw [key_small (by decide)] at h
  exact unV_le (by show val 4602678819172646912 ≤ U; omega)
theorem un_5_5 : unB 5 5 HALF = 0 := by
  have hd : D.div (whole 5) (whole 10) = some HALF := by decide +kernel
  have hs : D.sub HALF HALF = some 0 := by decide +kernel
  have hr : rg 0 = 0 := by decide +kernel
  have hn : ¬ nanW HALF = true := by rw [half_key.1]; exact Bool.false_ne_true
  unfold unB
  rw [if_neg (by decide), if_neg hn, show (5 : Int).toNat = 5 from rfl, show (5 + 5 : Int).toNat = 10 from rfl, hd, Option.getD_some, hs, Option.getD_some, hr]
  exact unV_le (by rw [val_zero]; exact Nat.zero_le _)
theorem nan_tenth : nanW TENTH = false := by
  unfold nanW
  have : rg 4591870180066957722 = 4591870180066957722 := by unfold rg; omega
  show decide (D.infRung < rg 4591870180066957722) = false
  rw [this, D_inf]
  exact decide_eq_false (by omega)
theorem gt_half : gtF HALF TENTH = true := by
  unfold gtF
  rw [half_key.1, nan_tenth, decide_eq_true (key_lt (by decide) (by decide) (by decide))]
  rfl
theorem gt_nought : gtF 0 TENTH = false := by
  unfold gtF
  have h := key_lt (r := TENTH) (s := 0) (by decide) (by decide) (by decide)
  rw [decide_eq_false (by omega)]
  simp
end Flo
end Go.Proofs.Ytablffjhipgfbaa
end
