/- Times, Share: the program's, and the document's; awake. -/
import Derived.Test.YtiapmnedbjmmhaaRatP
namespace Go.Proofs.Ytiapmnedbjmmhaa
open Ieee Go.RowKit Flo

def bnd (n : Int) : Int := min (max n 0) (2 ^ 30)
def shareV (m o : Int) (w : Nat) : Int := min (max (partV (bnd m + bnd o) w - bnd o) 0) (bnd m)
theorem bnd_range (n : Int) : 0 ≤ bnd n ∧ bnd n ≤ 1073741824 := by unfold bnd; omega
theorem part_range (n : Int) (w : Nat) : 0 ≤ partV n w ∧ partV n w ≤ 1099511627776 := by
  have := partV_range n w
  omega

theorem shared_any (n : Int) (W : World) : Calls Try.prog 27 #[.int .i64 n] W fun e w' => e = .returned (.int .i64 (bnd n)) ∧ W = w' := by
  go_enter Try.func27, Try.ntmps27
  go_wp2
  all_goals
    go_ret
    refine ⟨?_, rfl⟩
    show Ending.returned (.int .i64 _) = _
    congr 2
    unfold bnd
    omega

theorem bounded_any (n : Int) (W : World) : Calls Try.prog 29 #[.int .i64 n] W fun e w' => e = .returned (.int .i64 (bnd n)) ∧ W = w' := by
  go_enter Try.func29, Try.ntmps29
  go_wp2
  all_goals
    go_ret
    refine ⟨?_, rfl⟩
    show Ending.returned (.int .i64 _) = _
    congr 2
    unfold bnd
    omega

theorem rshare_any (m o : Int) (w : Nat) (W : World) : Calls Try.prog 20 #[.int .i64 m, .int .i64 o, .float .f64 w] W fun e w' => e = .returned (.int .i64 (shareV m o w)) ∧ W = w' := by
  have HM := Lib.hid (bounded_any m W)
  have HO := Lib.hid (bounded_any o W)
  have HP := Lib.hid (rpart_any (bnd m + bnd o) w W)
  have HS := Lib.hid (show shareV m o w = min (max (partV (bnd m + bnd o) w - bnd o) 0) (bnd m) from rfl)
  obtain ⟨a0, a1⟩ := bnd_range m
  obtain ⟨b0, b1⟩ := bnd_range o
  obtain ⟨c0, c1⟩ := part_range (bnd m + bnd o) w
  generalize partV (bnd m + bnd o) w = x at *
  generalize bnd m = a at *
  generalize bnd o = b at *
  go_enter Try.func20, Try.ntmps20
  go_wp2_with fail
  refine HM.out.mono ?_
  rintro e w' ⟨rfl, rfl⟩
  go_wp2_with fail
  refine HO.out.mono ?_
  rintro e w' ⟨rfl, rfl⟩
  go_wp2_with fail
  refine HP.out.mono ?_
  rintro e w' ⟨rfl, rfl⟩
  go_wp2
  all_goals
    go_ret
    refine ⟨?_, rfl⟩
    rw [HS.out]
    show Ending.returned (.int .i64 _) = _
    congr 2
    omega

theorem share_any (m o : Int) (w : Nat) (W : World) : Calls Try.prog 15 #[.int .i64 m, .int .i64 o, .float .f64 w] W fun e w' => e = .returned (.int .i64 (shareV m o w)) ∧ W = w' := by
  have HM := Lib.hid (fun V => shared_any m V)
  have HO := Lib.hid (fun V => shared_any o V)
  have HP := Lib.hid (fun V => part_any (bnd m + bnd o) w V)
  have HS := Lib.hid (show shareV m o w = min (max (partV (bnd m + bnd o) w - bnd o) 0) (bnd m) from rfl)
  obtain ⟨a0, a1⟩ := bnd_range m
  obtain ⟨b0, b1⟩ := bnd_range o
  obtain ⟨c0, c1⟩ := part_range (bnd m + bnd o) w
  generalize partV (bnd m + bnd o) w = x at *
  generalize bnd m = a at *
  generalize bnd o = b at *
  go_enter Try.func15, Try.ntmps15
  go_wp2_with fail
  refine (HM.out _).mono ?_
  rintro e w' ⟨rfl, rfl⟩
  go_wp2_with fail
  refine (HO.out _).mono ?_
  rintro e w' ⟨rfl, rfl⟩
  go_wp2_with fail
  refine (HP.out _).mono ?_
  rintro e w' ⟨rfl, rfl⟩
  go_wp2
  all_goals
    go_ret
    refine ⟨?_, rfl⟩
    rw [HS.out]
    show Ending.returned (.int .i64 _) = _
    congr 2
    omega

namespace Flo
theorem half_key : nanW 4602678819172646912 = false ∧ 0 < key 4602678819172646912 ∧ key 4602678819172646912 < U := by
  have e2 : rg 4602678819172646912 = 4602678819172646912 := by unfold rg; omega
  have e1 : sg 4602678819172646912 = false := by unfold sg; simp
  have a : val 4602678819172646912 < val (1023 * 2 ^ 52) := val_lt (by omega)
  have b : val 0 < val 4602678819172646912 := val_lt (by omega)
  rw [val_one] at a
  rw [val_zero] at b
  refine ⟨?_, ?_, ?_⟩
  · unfold nanW; rw [e2, D_inf]; exact decide_eq_false (by omega)
  · unfold key; rw [e1, e2]; simp only [Bool.false_eq_true, if_false]; omega
  · unfold key; rw [e1, e2]; simp only [Bool.false_eq_true, if_false]; omega

theorem pow_shift (a x y z : Nat) (h : x + y = z) : a * 2 ^ x * 2 ^ y = a * 2 ^ z := by rw [Nat.mul_assoc, ← Nat.pow_add, h]
theorem half7 : prod 7 4602678819172646912 = 4615063718147915776 := by decide +kernel
theorem half10 : prod 10 4602678819172646912 = 4617315517961601024 := by decide +kernel
theorem val35 : val 4615063718147915776 / U = 3 := by
  have e : val 4615063718147915776 = 7 * 2 ^ 1073 := by
    unfold val
    rewrite [if_neg (by omega)]
    have e1 : 2 ^ 52 + 4615063718147915776 % 2 ^ 52 = 7 * 2 ^ 50 := by omega
    have e2 : 4615063718147915776 / 2 ^ 52 - 1 = 1023 := by omega
    rewrite [e1, e2]
    exact pow_shift 7 50 1023 1073 (by omega)
  have u : U = 2 * 2 ^ 1073 := by
    rewrite [U_def, show 1074 = 1 + 1073 from rfl, Nat.pow_add 2 1 1073, show 2 ^ 1 = 2 from rfl]
    exact Eq.refl _
  rewrite [e, u, Nat.mul_div_mul_right 7 2 (Nat.two_pow_pos 1073)]
  exact Eq.refl _
theorem val5 : val 4617315517961601024 / U = 5 := by
  have e : val 4617315517961601024 = 5 * U := by
    unfold val
    rewrite [if_neg (by omega), U_def]
    have e1 : 2 ^ 52 + 4617315517961601024 % 2 ^ 52 = 5 * 2 ^ 50 := by omega
    have e2 : 4617315517961601024 / 2 ^ 52 - 1 = 1024 := by omega
    rewrite [e1, e2]
    exact pow_shift 5 50 1024 1074 (by omega)
  rewrite [e, Nat.mul_div_cancel _ U_pos]
  exact Eq.refl _

theorem half_part7 : partV 7 4602678819172646912 = 3 := by
  obtain ⟨h1, h2, h3⟩ := half_key
  unfold partV
  rw [if_neg (by rw [h1]; rintro (x | x | x) <;> first | omega | cases x), if_neg (by omega), show (min (7 : Int) (2 ^ 40)).toNat = 7 from rfl, half7, val35]
  rfl
theorem half_part10 : partV 10 4602678819172646912 = 5 := by
  obtain ⟨h1, h2, h3⟩ := half_key
  unfold partV
  rw [if_neg (by rw [h1]; rintro (x | x | x) <;> first | omega | cases x), if_neg (by omega), show (min (10 : Int) (2 ^ 40)).toNat = 10 from rfl, half10, val5]
  rfl
theorem half_share : shareV 10 0 4602678819172646912 = 5 := by
  unfold shareV
  rw [show bnd 10 + bnd 0 = 10 from rfl, half_part10]
  rfl
end Flo

end Go.Proofs.Ytiapmnedbjmmhaa
