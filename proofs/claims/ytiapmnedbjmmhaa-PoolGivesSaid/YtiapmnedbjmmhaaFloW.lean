/- Floats in a walk: comparisons, the library's small functions. -/
import Derived.Test.YtiapmnedbjmmhaaFloR
import Derived.Test.YtiapmnedbjmmhaaProg
import Derived.WalkKit
import Derived.WalkSpells
import Derived.WalkLawsBesides
import Derived.Lib.Hide
import Derived.OwnWalk
import Derived.Outline
import Derived.Laws.Externs
import Derived.Laws.BitsAllLaws
namespace Go.Proofs.Ytiapmnedbjmmhaa
open Ieee Go.RowKit
namespace Flo

def ltF (a b : Nat) : Bool := !nanW a && !nanW b && decide (key a < key b)
def leF (a b : Nat) : Bool := !nanW a && !nanW b && decide (key a ≤ key b)
def gtF (a b : Nat) : Bool := !nanW a && !nanW b && decide (key b < key a)
def geF (a b : Nat) : Bool := !nanW a && !nanW b && decide (key b ≤ key a)

theorem t_lt (a b : Nat) : (FloatKind.f64.format.order a b == some .lt) = ltF a b := by rw [fmt, ord_lt]; rfl
theorem t_le (a b : Nat) : (FloatKind.f64.format.order a b == some .lt || FloatKind.f64.format.order a b == some .eq) = leF a b := by rw [fmt, ord_le]; rfl
theorem t_gt (a b : Nat) : (FloatKind.f64.format.order a b == some .gt) = gtF a b := by rw [fmt, ord_gt]; rfl
theorem t_ge (a b : Nat) : (FloatKind.f64.format.order a b == some .gt || FloatKind.f64.format.order a b == some .eq) = geF a b := by rw [fmt, ord_ge]; rfl

theorem nan_zero : nanW 0 = false := by
  unfold nanW
  have : rg 0 = 0 := by unfold rg; simp
  rw [this, D_inf]
  exact decide_eq_false (by omega)
theorem one_def : 4607182418800017408 = 1023 * 2 ^ 52 := by decide
theorem nan_one : nanW 4607182418800017408 = false := by
  unfold nanW
  have : rg 4607182418800017408 = 4607182418800017408 := by unfold rg; omega
  rw [this, D_inf]
  exact decide_eq_false (by omega)
theorem key_one' : key 4607182418800017408 = U := by rw [one_def]; exact key_one

/-- The clearing of a word's sign. -/
theorem clear_sign (b : Nat) (hb : b < 2 ^ 64) : (bits .andNot .u64 (b : Int) 9223372036854775808).toNat = rg b := by
  rw [show (9223372036854775808 : Int) = ((9223372036854775808 : Nat) : Int) from rfl, u64_andNot_nat b 9223372036854775808 (by omega) (by omega)]
  rw [Int.toNat_natCast, show 18446744073709551615 - 9223372036854775808 = 2 ^ 63 - 1 from rfl, Nat.and_two_pow_sub_one_eq_mod]
  rfl
end Flo
open Flo

theorem isnan_any (b : Nat) (W : World) : Calls Try.prog 30 #[.float .f64 b] W fun e w' => e = .returned (.bool (nanW b)) ∧ W = w' := by
  go_enter Try.func30, Try.ntmps30
  go_wp2
  go_ret
  refine ⟨?_, rfl⟩
  show Ending.returned (.bool (FloatKind.f64.format.order b b != some .eq)) = _
  rw [fmt, ord_self]

theorem call_bits (b : Nat) (w : World) : (callFunc 46 #[.float .f64 b]).run Try.prog w = .ok (.value (.int .u64 (b : Int))) w := by
  rw [run_callFunc_extern Try.func46 (by kernel_rfl) (by kernel_rfl) (by kernel_rfl) (e := Extern.MathFloatBits.float64bits) (by kernel_rfl)]
  rfl
theorem call_from (n : Int) (w : World) : (callFunc 45 #[.int .u64 n]).run Try.prog w = .ok (.value (.float .f64 n.toNat)) w := by
  rw [run_callFunc_extern Try.func45 (by kernel_rfl) (by kernel_rfl) (by kernel_rfl) (e := Extern.MathFloatBits.float64frombits) (by kernel_rfl)]
  rfl
attribute [local go_sem ↓] call_bits call_from

theorem abs_call (b : Nat) (hb : b < 2 ^ 64) (W : World) : Calls Try.prog 33 #[.float .f64 b] W fun e w' => e = .returned (.float .f64 (rg b)) ∧ W = w' := by
  go_enter Try.func33, Try.ntmps33
  go_wp2
  go_ret
  refine ⟨?_, rfl⟩
  show Ending.returned (.float .f64 _) = _
  rw [clear_sign b hb]
end Go.Proofs.Ytiapmnedbjmmhaa
