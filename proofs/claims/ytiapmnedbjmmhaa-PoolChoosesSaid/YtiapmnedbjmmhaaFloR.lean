/- Plain mathematics of floats: the sign turned round; the product as the walk makes it. -/
import Derived.Test.YtiapmnedbjmmhaaFloQ
import GoSem.Op.Unary
namespace Go.Proofs.Ytiapmnedbjmmhaa
open Ieee
namespace Flo

theorem rg_neg (w : Nat) : rg (Op.negFloat .f64 w) = rg w := by
  unfold rg Op.negFloat
  rw [fmt]
  show (w ^^^ 2 ^ 63) % 2 ^ 63 = w % 2 ^ 63
  rw [Nat.xor_mod_two_pow, Nat.mod_self, Nat.xor_zero]

theorem sg_neg (w : Nat) : sg (Op.negFloat .f64 w) = !sg w := by
  unfold sg Op.negFloat
  rw [fmt]
  show ((w ^^^ 2 ^ 63) / 2 ^ 63 % 2 == 1) = _
  rw [Nat.xor_div_two_pow, Nat.div_self (Nat.two_pow_pos _)]
  have h := Nat.xor_mod_two_eq_one (a := w / 2 ^ 63) (b := 1)
  by_cases c : w / 2 ^ 63 % 2 = 1
  · have z : ¬ ((w / 2 ^ 63 ^^^ 1) % 2 = 1) := by rw [h]; simp [c]
    rw [beq_eq_false_iff_ne.2 z, c]; rfl
  · have z : (w / 2 ^ 63 ^^^ 1) % 2 = 1 := by rw [h]; simp [c]
    rw [beq_eq_false_iff_ne.2 c, z]; rfl

theorem nan_neg (w : Nat) : nanW (Op.negFloat .f64 w) = nanW w := by unfold nanW; rw [rg_neg]

theorem key_neg (w : Nat) : key (Op.negFloat .f64 w) = -key w := by
  unfold key
  rw [rg_neg, sg_neg]
  cases sg w <;> simp

/-- The whole number that the walk makes of the product. -/
theorem prod_conv {k w : Nat} (h0 : 1 ≤ k) (h : k < 2 ^ 53) (g : val (rg w) ≤ U) :
    floatToIntVal .f64 (prod k w) .i64 = some ((val (prod k w) / U : Nat) : Int) := by
  unfold floatToIntVal FloatKind.decode
  rw [fmt, prod_int h0 h g]
  have c := prod_cut h0 h g
  have mn : IntKind.min .i64 = -(2 ^ 63) := by decide
  have mx : IntKind.max .i64 = 2 ^ 63 - 1 := by decide
  simp only
  rw [if_pos]
  rw [mn, mx]
  generalize val (prod k w) / U = q at *
  omega

/-- The operations' bits, as the library's laws ask for them. -/
theorem bits_mul {k w : Nat} (h0 : 1 ≤ k) (h : k < 2 ^ 53) (hs : sg w = false) (g : val (rg w) ≤ U) :
    floatBits .mul .f64 (floatOfInt .f64 (k : Int)) w = some (prod k w) := by
  rw [floatOf]; exact mul_part h0 h hs (small_fin g)

theorem prod_sg {k w : Nat} (h0 : 1 ≤ k) (h : k < 2 ^ 53) (g : val (rg w) ≤ U) :
    rg (prod k w) = prod k w ∧ nanW (prod k w) = false ∧ key (prod k w) = val (prod k w) := by
  have l := prod_lt h0 h g
  have e := rg_word false (Nat.le_of_lt l)
  rw [word_pos] at e
  refine ⟨e.1, ?_, ?_⟩
  · unfold nanW; rw [e.1]; exact decide_eq_false (by omega)
  · unfold key; rw [e.1, e.2]; rfl

theorem whole_key {k : Nat} (h0 : 1 ≤ k) (h : k < 2 ^ 53) :
    nanW (whole k) = false ∧ key (whole k) = ((k * U : Nat) : Int) := by
  have l := whole_lt h0 h
  have e := rg_word false (Nat.le_of_lt l)
  rw [word_pos] at e
  refine ⟨?_, ?_⟩
  · unfold nanW; rw [e.1]; exact decide_eq_false (by omega)
  · unfold key; rw [e.1, e.2, whole_val h0 h]; rfl

/-- Where the product is not below the number, cutting it gives the number. -/
theorem prod_top {k w : Nat} (h0 : 1 ≤ k) (h : k < 2 ^ 53) (g : val (rg w) ≤ U) (t : key (whole k) ≤ key (prod k w)) :
    val (prod k w) / U = k := by
  rw [(whole_key h0 h).2, (prod_sg h0 h g).2.2] at t
  have a := prod_val h0 h g
  have e : val (prod k w) = k * U := by omega
  rw [e, Nat.mul_div_cancel _ U_pos]

end Flo
end Go.Proofs.Ytiapmnedbjmmhaa
