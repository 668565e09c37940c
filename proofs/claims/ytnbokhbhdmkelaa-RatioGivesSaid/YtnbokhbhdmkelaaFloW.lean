/- Floats in a walk: comparisons, the library's small functions. -/
import Derived.Test.YtnbokhbhdmkelaaFloR
import Derived.Test.YtnbokhbhdmkelaaProg
import Derived.WalkKit
import Derived.WalkSpells
import Derived.WalkLawsBesides
import Derived.Lib.Hide
import Derived.OwnWalk
import Derived.Outline
import Derived.Laws.Externs
import Derived.Laws.BitsAllLaws
namespace Go.Proofs.Ytnbokhbhdmkelaa
open Ieee Go.RowKit
namespace Flo

def ltF (a b : Nat) : Bool := !nanW a && !nanW b && decide (key a < key b)
def leF (a b : Nat) : Bool := !nanW a && !nanW b && decide (key a ≤ key b)
def gtF (a b : Nat) : Bool := !nanW a && !nanW b && decide (key b < key a)
def geF (a b : Nat) : Bool := !nanW a && !nanW b && decide (key b ≤ key a)

theorem t_lt (a b : Nat) : (FloatKind.f64.format.order a b == some .lt) = ltF a b := by rw [fmt, ord_lt]; rfl
theorem t_le (a b : Nat) : (FloatKind.f64.format.order a b == some .lt || FloatKind.f64.format.order a b == some .eq) = leF a b := by rw [fmt, ord_le]; rfl
theorem t_gt (a b : Nat) : (FloatKind.f64.format.order a b == some .gt) = gtF a b := by rw [fmt, ord_gt]; rfl
theorem t_ge (a b : Nat) : (FloatKind.f64.format.order a b == some .gt || FloatKind.f64.format.order a b == some .eq) = geF a b := by rw [fmt, ord_ge]; rfl

theorem nan_zero : nanW 0 = false := by
  unfold nanW
  have : rg 0 = 0 := by unfold rg; simp
  rw [this, D_inf]
  exact decide_eq_false (by omega)
theorem one_def : 4607182418800017408 = 1023 * 2 ^ 52 := by decide
theorem nan_one : nanW 4607182418800017408 = false := by
  unfold nanW
  have : rg 4607182418800017408 = 4607182418800017408 := by unfold rg; omega
  rw [this, D_inf]
  exact decide_eq_false (by omega)
theorem key_one' : key 4607182418800017408 = U := by rw [one_def]; exact key_one

/-- The clearing of a word's sign. -/
theorem clear_sign (b : Nat) (hb : b < 2 ^ 64) : (bits .andNot .u64 (b : Int) 9223372036854775808).toNat = rg b := by
  rw [show (9223372036854775808 : Int) = ((9223372036854775808 : Nat) : Int) from rfl, u64_andNot_nat b 9223372036854775808 (by omega) (by omega)]
  rw [Int.toNat_natCast, show 18446744073709551615 - 9223372036854775808 = 2 ^ 63 - 1 from rfl, Nat.and_two_pow_sub_one_eq_mod]
  rfl
end Flo
open Flo

theorem isnan_any (b : Nat) (W : World) : Calls Try.prog 18 #[.float .f64 b] W fun e w' => e = .returned (.bool (nanW b)) ∧ W = w' := by
  go_enter Try.func18, Try.ntmps18
  go_wp2
  go_ret
  refine ⟨?_, rfl⟩
  show Ending.returned (.bool (FloatKind.f64.format.order b b != some .eq)) = _
  rw [fmt, ord_self]

theorem call_bits (b : Nat) (w : World) : (callFunc 17 #[.float .f64 b]).run Try.prog w = .ok (.value (.int .u64 (b : Int))) w := by
  rw [run_callFunc_extern Try.func17 (by kernel_rfl) (by kernel_rfl) (by kernel_rfl) (e := Extern.MathFloatBits.float64bits) (by kernel_rfl)]
  rfl
theorem call_from (n : Int) (w : World) : (callFunc 25 #[.int .u64 n]).run Try.prog w = .ok (.value (.float .f64 n.toNat)) w := by
  rw [run_callFunc_extern Try.func25 (by kernel_rfl) (by kernel_rfl) (by kernel_rfl) (e := Extern.MathFloatBits.float64frombits) (by kernel_rfl)]
  rfl
attribute [local go_sem ↓] call_bits call_from

theorem nan_call (W : World) : Calls Try.prog 19 #[] W fun e w' => e = .returned (.float .f64 9221120237041090561) ∧ W = w' := by
  go_enter Try.func19, Try.ntmps19
  go_wp2
  go_ret
  exact ⟨rfl, rfl⟩

theorem inf_call (s : Int) (W : World) : Calls Try.prog 20 #[.int .i64 s] W fun e w' => e = .returned (.float .f64 (if 0 ≤ s then 9218868437227405312 else 18442240474082181120)) ∧ W = w' := by
  by_cases h : 0 ≤ s
  all_goals
    go_enter Try.func20, Try.ntmps20
    go_wp2
    go_ret
    simp
    <;> omega

theorem abs_call (b : Nat) (hb : b < 2 ^ 64) (W : World) : Calls Try.prog 23 #[.float .f64 b] W fun e w' => e = .returned (.float .f64 (rg b)) ∧ W = w' := by
  go_enter Try.func23, Try.ntmps23
  go_wp2
  go_ret
  refine ⟨?_, rfl⟩
  show Ending.returned (.float .f64 _) = _
  rw [clear_sign b hb]
end Go.Proofs.Ytnbokhbhdmkelaa
