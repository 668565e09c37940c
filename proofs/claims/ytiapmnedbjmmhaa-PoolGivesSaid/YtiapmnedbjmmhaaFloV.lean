/- Plain mathematics of floats: what a rung stands for; whole numbers are exact; a float made whole. -/
import Derived.Test.YtiapmnedbjmmhaaFloM
import Derived.Laws.FloatArith
namespace Go.Proofs.Ytiapmnedbjmmhaa
open Ieee
namespace Flo

abbrev D : Format := Ieee.double

theorem D_fb : D.fractionBits = 52 := rfl
theorem D_least : D.leastPlace = -1074 := by decide
theorem D_binade : D.binade = 2 ^ 52 := rfl
theorem D_inf : D.infRung = 2047 * 2 ^ 52 := rfl
theorem D_sign : D.signWeight = 2 ^ 63 := rfl

/-- What a rung stands for, in units of the least number above nought; infinity's rung is above all. -/
def val (r : Nat) : Nat := if r < 2 ^ 52 then r else (2 ^ 52 + r % 2 ^ 52) * 2 ^ (r / 2 ^ 52 - 1)

def mant (r : Nat) : Nat := if r < 2 ^ 52 then r else 2 ^ 52 + r % 2 ^ 52
def pl (r : Nat) : Int := if r < 2 ^ 52 then -1074 else -1074 + (r / 2 ^ 52 - 1 : Nat)

theorem pl_ge (r : Nat) : -1074 ≤ pl r := by unfold pl; split <;> omega

theorem at_val (r : Nat) : at_ (-1074) (mant r) (pl r) = val r := by
  unfold at_ mant pl val
  split
  · simp
  · congr 2; omega

theorem val_lt {r s : Nat} (h : r < s) : val r < val s := by
  unfold val
  have dr := Nat.div_add_mod r (2 ^ 52)
  have ds := Nat.div_add_mod s (2 ^ 52)
  have mr := Nat.mod_lt r (Nat.two_pow_pos 52)
  have ms := Nat.mod_lt s (Nat.two_pow_pos 52)
  by_cases h1 : r < 2 ^ 52
  · by_cases h2 : s < 2 ^ 52
    · simp only [h1, h2, if_true]; exact h
    · simp only [h1, h2, if_true, if_false]
      have := Nat.mul_le_mul_left (2 ^ 52 + s % 2 ^ 52) (Nat.two_pow_pos (s / 2 ^ 52 - 1))
      omega
  · have h2 : ¬ s < 2 ^ 52 := by omega
    simp only [h1, h2, if_false]
    have q1 : 1 ≤ r / 2 ^ 52 := by omega
    by_cases e : r / 2 ^ 52 = s / 2 ^ 52
    · rw [e]
      refine Nat.mul_lt_mul_of_pos_right ?_ (Nat.two_pow_pos _)
      omega
    · have q : r / 2 ^ 52 < s / 2 ^ 52 := by omega
      have a : (2 ^ 52 + r % 2 ^ 52) * 2 ^ (r / 2 ^ 52 - 1) < 2 ^ 53 * 2 ^ (r / 2 ^ 52 - 1) :=
        Nat.mul_lt_mul_of_pos_right (by omega) (Nat.two_pow_pos _)
      have b : 2 ^ 53 * 2 ^ (r / 2 ^ 52 - 1) ≤ 2 ^ 52 * 2 ^ (s / 2 ^ 52 - 1) := by
        rw [← Nat.pow_add, ← Nat.pow_add]
        exact Nat.pow_le_pow_right (by omega) (by omega)
      have c : 2 ^ 52 * 2 ^ (s / 2 ^ 52 - 1) ≤ (2 ^ 52 + s % 2 ^ 52) * 2 ^ (s / 2 ^ 52 - 1) :=
        Nat.mul_le_mul_right _ (by omega)
      omega

theorem val_mono {r s : Nat} (h : r ≤ s) : val r ≤ val s := by
  rcases Nat.lt_or_ge r s with h' | h'
  · exact Nat.le_of_lt (val_lt h')
  · have : r = s := by omega
    subst this; exact Nat.le_refl _

theorem val_le_iff {r s : Nat} : val r ≤ val s ↔ r ≤ s := by
  constructor
  · intro h
    rcases Nat.lt_or_ge s r with h' | h'
    · have := val_lt h'; omega
    · exact h'
  · exact val_mono

/-- A word is read. -/
theorem read_pos {r : Nat} (h : r < D.infRung) : D.read r = .number false (mant r) (pl r) := by
  rw [D_inf] at h
  unfold Format.read
  rw [D_sign, D_binade, D_inf, D_least]
  have e1 : r / 2 ^ 63 % 2 = 0 := by omega
  have e2 : r % 2 ^ 63 = r := by omega
  simp only [e1, e2]
  unfold mant pl
  by_cases c : r < 2 ^ 52
  · simp only [c, if_true]; rfl
  · simp only [c, if_false, h, if_true]; rfl

/-- One, in units of the least number above nought. -/
def U : Nat := 2 ^ 1074
theorem U_def : U = 2 ^ 1074 := by delta U; exact Eq.refl _
theorem U_pos : 0 < U := by rw [U_def]; exact Nat.two_pow_pos 1074
attribute [irreducible] U

/-- A whole number that fits the fraction is exact. -/
theorem rung_whole {n : Nat} (h0 : 1 ≤ n) (h : n < 2 ^ 53) : val (rung D n 0) = n * U ∧ rung D n 0 < D.infRung := by
  have hn : n ≠ 0 := by omega
  have hl : n.log2 < 53 := (Nat.log2_lt hn).2 h
  have l1 : 2 ^ n.log2 ≤ n := Nat.log2_self_le hn
  have l2 : n < 2 ^ (n.log2 + 1) := Nat.lt_log2_self
  unfold rung
  simp only [hn, if_false]
  rw [D_fb, D_least, D_binade, D_inf]
  have e : max (0 + (n.log2 : Int) - (52 : Nat)) (-1074) = (n.log2 : Int) - 52 := by omega
  rw [e]
  have ek : keep n 0 ((n.log2 : Int) - 52) = n * 2 ^ (52 - n.log2) := by
    unfold keep
    have a1 : ((0 : Int) - ((n.log2 : Int) - 52)).toNat = 52 - n.log2 := by omega
    have a2 : (((n.log2 : Int) - 52) - 0).toNat = 0 := by omega
    rw [a1, a2, Nat.shiftLeft_eq]
    have := rhe_exact (n * 2 ^ (52 - n.log2)) 1 (by omega)
    rw [Nat.mul_one] at this
    exact this
  rw [ek]
  have et : (((n.log2 : Int) - 52) - (-1074)).toNat = n.log2 + 1022 := by omega
  rw [et]
  have k1 : 2 ^ 52 ≤ n * 2 ^ (52 - n.log2) := by
    refine Nat.le_trans ?_ (Nat.mul_le_mul_right _ l1)
    rw [← Nat.pow_add]
    exact Nat.pow_le_pow_right (by omega) (by omega)
  have k2 : n * 2 ^ (52 - n.log2) < 2 ^ 53 := by
    refine Nat.lt_of_lt_of_le (Nat.mul_lt_mul_of_pos_right l2 (Nat.two_pow_pos _)) ?_
    rw [← Nat.pow_add]
    exact Nat.pow_le_pow_right (by omega) (by omega)
  generalize hk : n * 2 ^ (52 - n.log2) = k at *
  have lt : (n.log2 + 1022) * 2 ^ 52 + k < 2047 * 2 ^ 52 := by omega
  rw [Nat.min_eq_left (Nat.le_of_lt lt)]
  refine ⟨?_, lt⟩
  unfold val
  have c : ¬ (n.log2 + 1022) * 2 ^ 52 + k < 2 ^ 52 := by omega
  simp only [c, if_false]
  have d1 : ((n.log2 + 1022) * 2 ^ 52 + k) / 2 ^ 52 - 1 = n.log2 + 1022 := by omega
  have d2 : 2 ^ 52 + ((n.log2 + 1022) * 2 ^ 52 + k) % 2 ^ 52 = k := by omega
  rw [d1, d2, ← hk, Nat.mul_assoc, ← Nat.pow_add, U_def]
  rw [show 52 - n.log2 + (n.log2 + 1022) = 1074 by omega]

theorem cut_zero (neg : Bool) (n d : Nat) : Toward.zero.cut neg n d = n / 2 ^ d := by
  unfold Toward.cut
  simp only [Nat.one_shiftLeft, Bool.toNat_false, Nat.add_zero]
  by_cases h : d ≤ n.log2 + 2
  · rw [Nat.min_eq_left h]
  · have h' : n.log2 + 2 ≤ d := by omega
    rw [Nat.min_eq_right h']
    have a : n < 2 ^ (n.log2 + 1) := Nat.lt_log2_self
    have b : 2 ^ (n.log2 + 1) ≤ 2 ^ (n.log2 + 2) := Nat.pow_le_pow_right (by omega) (by omega)
    have c : 2 ^ (n.log2 + 2) ≤ 2 ^ d := Nat.pow_le_pow_right (by omega) h'
    rw [Nat.div_eq_of_lt (by omega), Nat.div_eq_of_lt (by omega)]

/-- A float made whole, cut towards nought. -/
theorem toInt_pos {r : Nat} (h : r < D.infRung) : (D.read r).toInt .zero = some ((val r / U : Nat) : Int) := by
  rw [read_pos h]
  unfold Datum.toInt Datum.integral
  simp only [cut_zero, signed, if_false, Nat.shiftLeft_zero, Bool.false_eq_true]
  rw [← at_val]
  unfold at_
  have hp := pl_ge r
  congr 2
  rewrite [Nat.shiftLeft_eq, U_def]
  rcases Int.le_total 0 (pl r) with g | g
  · have a1 : (-pl r).toNat = 0 := by omega
    have a2 : (pl r - -1074).toNat = (pl r).toNat + 1074 := by omega
    rw [a1, a2, Nat.pow_add, ← Nat.mul_assoc, Nat.mul_div_cancel _ (Nat.two_pow_pos 1074), Nat.pow_zero, Nat.div_one]
  · have a1 : (pl r).toNat = 0 := by omega
    have a2 : 1074 = (-pl r).toNat + (pl r - -1074).toNat := by omega
    rw [a1]
    conv => rhs; rw [a2]
    rw [Nat.pow_add, Nat.pow_zero, Nat.mul_one, Nat.mul_div_mul_right _ _ (Nat.two_pow_pos _)]

end Flo
end Go.Proofs.Ytiapmnedbjmmhaa
