/- Joined texts: FloM, FloV, FloO, FloP, FloQ, FloR, FloW. -/
import Ieee.Arith
import Derived.Laws.FloatArith
import GoSem.Op.Unary
import Derived.Test.YtmaohnbddlccdaaGreatProg
import Derived.WalkKit
import Derived.WalkSpells
import Derived.WalkLawsBesides
import Derived.Lib.Hide
import Derived.OwnWalk
import Derived.Outline
import Derived.Laws.Externs
import Derived.Laws.BitsAllLaws

/- Plain mathematics of floats: rounding is monotone. -/
section
namespace Go.Proofs.YtmaohnbddlccdaaGreat.NR
open Ieee
namespace Flo

/-- n / g to the nearest, between two the even one. -/
def rhe (n g : Nat) : Nat := n / g + (decide (g < 2 * (n % g)) || (g == 2 * (n % g) && n / g % 2 == 1)).toNat

theorem cut_even (neg : Bool) (n d : Nat) : Toward.even.cut neg n d = rhe n (2 ^ d) := by
  unfold Toward.cut rhe
  simp only [Nat.one_shiftLeft]
  by_cases h : d ≤ n.log2 + 2
  · rw [Nat.min_eq_left h]
  · have h' : n.log2 + 2 ≤ d := by omega
    rw [Nat.min_eq_right h']
    have a : n < 2 ^ (n.log2 + 1) := Nat.lt_log2_self
    have b : 2 ^ (n.log2 + 2) = 2 * 2 ^ (n.log2 + 1) := by rw [Nat.pow_succ]; omega
    have c : 2 ^ (n.log2 + 2) ≤ 2 ^ d := Nat.pow_le_pow_right (by omega) h'
    have e1 : n / 2 ^ (n.log2 + 2) = 0 := Nat.div_eq_of_lt (by omega)
    have e2 : n / 2 ^ d = 0 := Nat.div_eq_of_lt (by omega)
    have e3 : n % 2 ^ (n.log2 + 2) = n := Nat.mod_eq_of_lt (by omega)
    have e4 : n % 2 ^ d = n := Nat.mod_eq_of_lt (by omega)
    rw [e1, e2, e3, e4]
    have f1 : ¬ 2 ^ (n.log2 + 2) < 2 * n := by omega
    have f2 : ¬ 2 ^ d < 2 * n := by omega
    simp [f1, f2]

theorem rhe_mul (n g k : Nat) (hk : 0 < k) : rhe (n * k) (g * k) = rhe n g := by
  unfold rhe
  rw [Nat.mul_div_mul_right _ _ hk, Nat.mul_mod_mul_right]
  have h1 : (g * k < 2 * (n % g * k)) ↔ (g < 2 * (n % g)) := by
    rw [← Nat.mul_assoc]; exact Nat.mul_lt_mul_right hk
  have h2 : (g * k = 2 * (n % g * k)) ↔ (g = 2 * (n % g)) := by
    rw [← Nat.mul_assoc]; exact Nat.mul_right_cancel_iff hk
  simp only [h1]
  congr 3
  by_cases h : g = 2 * (n % g)
  · have := h2.2 h
    simp [this.symm, h.symm]
  · have h' : ¬ (g * k = 2 * (n % g * k)) := fun e => h (h2.1 e)
    rw [beq_eq_false_iff_ne.2 h, beq_eq_false_iff_ne.2 h']

theorem rhe_le (n g : Nat) : rhe n g ≤ n / g + 1 := by
  unfold rhe
  have : ∀ b : Bool, b.toNat ≤ 1 := by decide
  exact Nat.add_le_add_left (this _) _

theorem rhe_ge (n g : Nat) : n / g ≤ rhe n g := by unfold rhe; omega

theorem rhe_mono (g : Nat) (_hg : 0 < g) {n m : Nat} (h : n ≤ m) : rhe n g ≤ rhe m g := by
  have hd : n / g ≤ m / g := Nat.div_le_div_right h
  by_cases e : n / g = m / g
  · have : n % g ≤ m % g := by
      have a := Nat.div_add_mod n g
      have b := Nat.div_add_mod m g
      rw [e] at a
      omega
    unfold rhe
    rw [e]
    by_cases c1 : g < 2 * (n % g)
    · have : g < 2 * (m % g) := by omega
      simp [c1, this]
    · by_cases c2 : g = 2 * (n % g)
      · by_cases c3 : g < 2 * (m % g)
        · have q : ∀ b : Bool, b.toNat ≤ 1 := by decide
          simp only [c3, decide_true, Bool.true_or, Bool.toNat_true]
          exact Nat.add_le_add_left (q _) _
        · have : g = 2 * (m % g) := by omega
          rw [← this, ← c2]
          omega
      · have : (g == 2 * (n % g)) = false := beq_eq_false_iff_ne.2 c2
        simp [c1, this]
  · have := rhe_le n g
    have := rhe_ge m g
    omega

/-- Where the whole is an exact multiple, nothing is lost. -/
theorem rhe_exact (n g : Nat) (hg : 0 < g) : rhe (n * g) g = n := by
  unfold rhe
  rw [Nat.mul_div_cancel _ hg, Nat.mul_mod_left]
  have : ¬ g < 2 * 0 := by omega
  have h2 : (g == 2 * 0) = false := beq_eq_false_iff_ne.2 (by omega)
  simp [this, h2]

/-- m * 2 ^ p, in units of 2 ^ b. -/
def at_ (b : Int) (m : Nat) (p : Int) : Nat := m * 2 ^ (p - b).toNat

/-- a * 2 ^ p is not above c * 2 ^ q. -/
def Le (a : Nat) (p : Int) (c : Nat) (q : Int) : Prop := at_ (min p q) a p ≤ at_ (min p q) c q

theorem at_shift {b b' : Int} {m : Nat} {p : Int} (h : b' ≤ b) (hp : b ≤ p) : at_ b' m p = at_ b m p * 2 ^ (b - b').toNat := by
  unfold at_
  rw [Nat.mul_assoc, ← Nat.pow_add]
  congr 2
  omega

theorem le_iff {a c : Nat} {p q b : Int} (h1 : b ≤ p) (h2 : b ≤ q) : Le a p c q ↔ at_ b a p ≤ at_ b c q := by
  unfold Le
  rw [at_shift (b := min p q) (b' := b) (m := a) (by omega) (by omega), at_shift (b := min p q) (b' := b) (m := c) (by omega) (by omega)]
  exact (Nat.mul_le_mul_right_iff (Nat.two_pow_pos _)).symm

theorem Le.trans {a c d : Nat} {p q r : Int} (h : Le a p c q) (g : Le c q d r) : Le a p d r := by
  have b1 : min p (min q r) ≤ p := by omega
  have b2 : min p (min q r) ≤ q := by omega
  have b3 : min p (min q r) ≤ r := by omega
  rw [le_iff b1 b2] at h
  rw [le_iff b2 b3] at g
  rw [le_iff b1 b3]
  exact Nat.le_trans h g

theorem Le.refl (a : Nat) (p : Int) : Le a p a p := Nat.le_refl _

theorem Le.mul {a c : Nat} {p q : Int} (h : Le a p c q) {n k : Nat} (hn : n ≤ k) : Le (n * a) p (k * c) q := by
  unfold Le at_ at *
  rw [Nat.mul_assoc, Nat.mul_assoc]
  exact Nat.mul_le_mul hn h

/-- the place of the topmost digit grows -/
theorem log_le {a c : Nat} {p q : Int} (ha : a ≠ 0) (h : Le a p c q) : p + a.log2 ≤ q + c.log2 := by
  unfold Le at_ at h
  have hc : c ≠ 0 := by
    intro e; subst e
    have := Nat.mul_pos (Nat.pos_of_ne_zero ha) (Nat.two_pow_pos (p - min p q).toNat)
    omega
  have l1 : 2 ^ a.log2 ≤ a := Nat.log2_self_le ha
  have l2 : c < 2 ^ (c.log2 + 1) := Nat.lt_log2_self
  have l3 : 2 ^ (a.log2 + (p - min p q).toNat) < 2 ^ (c.log2 + 1 + (q - min p q).toNat) := by
    rw [Nat.pow_add, Nat.pow_add 2 (c.log2 + 1)]
    have u := Nat.mul_le_mul_right (2 ^ (p - min p q).toNat) l1
    have v := Nat.mul_lt_mul_of_pos_right l2 (Nat.two_pow_pos (q - min p q).toNat)
    omega
  have := (Nat.pow_lt_pow_iff_right (a := 2) (by omega)).1 l3
  omega

/-- What is kept of mag * 2 ^ place, the last digit kept being at 'last'. -/
def keep (m : Nat) (p last : Int) : Nat := rhe (m <<< (p - last).toNat) (2 ^ (last - p).toNat)

/-- in units of any base -/
theorem keep_at (m : Nat) (p last b : Int) (h1 : b ≤ p) (h2 : b ≤ last) : keep m p last = rhe (at_ b m p) (2 ^ (last - b).toNat) := by
  unfold keep at_
  rw [Nat.shiftLeft_eq, ← rhe_mul _ _ (2 ^ (min p last - b).toNat) (Nat.two_pow_pos _), Nat.mul_assoc, ← Nat.pow_add, ← Nat.pow_add]
  congr 3 <;> omega

theorem keep_mono {a c : Nat} {p q last : Int} (h : Le a p c q) : keep a p last ≤ keep c q last := by
  have b1 : min last (min p q) ≤ p := by omega
  have b2 : min last (min p q) ≤ q := by omega
  have b3 : min last (min p q) ≤ last := by omega
  rw [keep_at a p last _ b1 b3, keep_at c q last _ b2 b3]
  exact rhe_mono _ (Nat.two_pow_pos _) ((le_iff b1 b2).1 h)

theorem keep_low {m : Nat} {p last : Int} {k : Nat} (hm : m ≠ 0) (h : p + m.log2 = last + k) : 2 ^ k ≤ keep m p last := by
  have b1 : min last p ≤ p := by omega
  have b3 : min last p ≤ last := by omega
  rw [keep_at m p last _ b1 b3]
  refine Nat.le_trans ?_ (rhe_ge _ _)
  rw [Nat.le_div_iff_mul_le (Nat.two_pow_pos _), ← Nat.pow_add]
  unfold at_
  have l1 : 2 ^ m.log2 ≤ m := Nat.log2_self_le hm
  refine Nat.le_trans ?_ (Nat.mul_le_mul_right _ l1)
  rw [← Nat.pow_add]
  exact Nat.pow_le_pow_right (by omega) (by omega)

theorem keep_high {m : Nat} {p last : Int} {k : Nat} (h : p + m.log2 ≤ last + k) : keep m p last ≤ 2 ^ (k + 1) := by
  have b1 : min last p ≤ p := by omega
  have b3 : min last p ≤ last := by omega
  rw [keep_at m p last _ b1 b3]
  refine Nat.le_trans (rhe_le _ _) ?_
  have l2 : m < 2 ^ (m.log2 + 1) := Nat.lt_log2_self
  have : at_ (min last p) m p / 2 ^ (last - min last p).toNat < 2 ^ (k + 1) := by
    rw [Nat.div_lt_iff_lt_mul (Nat.two_pow_pos _), ← Nat.pow_add]
    unfold at_
    have v := Nat.mul_lt_mul_of_pos_right l2 (Nat.two_pow_pos (p - min last p).toNat)
    refine Nat.lt_of_lt_of_le v ?_
    rw [← Nat.pow_add]
    exact Nat.pow_le_pow_right (by omega) (by omega)
  omega

/-- The rung that 'nearest' takes. -/
def rung (f : Format) (m : Nat) (p : Int) : Nat :=
  if m = 0 then 0 else
  let last := max (p + m.log2 - f.fractionBits) f.leastPlace
  min ((last - f.leastPlace).toNat * f.binade + keep m p last) f.infRung

theorem nearest_rung (f : Format) (neg : Bool) (m : Nat) (p : Int) : f.nearest neg m p = f.word neg (rung f m p) := by
  unfold Format.nearest rung
  split
  · rfl
  · simp only [cut_even, keep]

/-- ROUNDING IS MONOTONE. -/
theorem rung_mono (f : Format) {a c : Nat} {p q : Int} (h : Le a p c q) : rung f a p ≤ rung f c q := by
  by_cases ha : a = 0
  · simp [rung, ha]
  have hc : c ≠ 0 := by
    intro e; subst e
    unfold Le at_ at h
    have := Nat.mul_pos (Nat.pos_of_ne_zero ha) (Nat.two_pow_pos (p - min p q).toNat)
    omega
  have hl := log_le ha h
  unfold rung
  simp only [ha, hc, if_false]
  generalize e1 : max (p + a.log2 - f.fractionBits) f.leastPlace = l1
  generalize e2 : max (q + c.log2 - f.fractionBits) f.leastPlace = l2
  have hll : l1 ≤ l2 := by omega
  by_cases e : l1 = l2
  · subst e
    have := keep_mono (last := l1) h
    omega
  · have k1 : keep a p l1 ≤ 2 ^ (f.fractionBits + 1) := keep_high (by omega)
    have k2 : 2 ^ f.fractionBits ≤ keep c q l2 := keep_low hc (by omega)
    have s : (l1 - f.leastPlace).toNat + 1 ≤ (l2 - f.leastPlace).toNat := by omega
    have t := Nat.mul_le_mul_right f.binade s
    rw [Nat.add_mul] at t
    unfold Format.binade at *
    rw [Nat.pow_succ] at k1
    omega

end Flo
end Go.Proofs.YtmaohnbddlccdaaGreat.NR
end

/- Plain mathematics of floats: what a rung stands for; whole numbers are exact; a float made whole. -/
section
namespace Go.Proofs.YtmaohnbddlccdaaGreat.NR
open Ieee
namespace Flo

abbrev D : Format := Ieee.double

theorem D_fb : D.fractionBits = 52 := rfl
theorem D_least : D.leastPlace = -1074 := by decide
theorem D_binade : D.binade = 2 ^ 52 := rfl
theorem D_inf : D.infRung = 2047 * 2 ^ 52 := rfl
theorem D_sign : D.signWeight = 2 ^ 63 := rfl

/-- What a rung stands for, in units of the least number above nought; infinity's rung is above all. -/
def val (r : Nat) : Nat := if r < 2 ^ 52 then r else (2 ^ 52 + r % 2 ^ 52) * 2 ^ (r / 2 ^ 52 - 1)

def mant (r : Nat) : Nat := if r < 2 ^ 52 then r else 2 ^ 52 + r % 2 ^ 52
def pl (r : Nat) : Int := if r < 2 ^ 52 then -1074 else -1074 + (r / 2 ^ 52 - 1 : Nat)

theorem pl_ge (r : Nat) : -1074 ≤ pl r := by unfold pl; split <;> omega

theorem at_val (r : Nat) : at_ (-1074) (mant r) (pl r) = val r := by
  unfold at_ mant pl val
  split
  · simp
  · congr 2; omega

theorem val_lt {r s : Nat} (h : r < s) : val r < val s := by
  unfold val
  have dr := Nat.div_add_mod r (2 ^ 52)
  have ds := Nat.div_add_mod s (2 ^ 52)
  have mr := Nat.mod_lt r (Nat.two_pow_pos 52)
  have ms := Nat.mod_lt s (Nat.two_pow_pos 52)
  by_cases h1 : r < 2 ^ 52
  · by_cases h2 : s < 2 ^ 52
    · simp only [h1, h2, if_true]; exact h
    · simp only [h1, h2, if_true, if_false]
      have := Nat.mul_le_mul_left (2 ^ 52 + s % 2 ^ 52) (Nat.two_pow_pos (s / 2 ^ 52 - 1))
      omega
  · have h2 : ¬ s < 2 ^ 52 := by omega
    simp only [h1, h2, if_false]
    have q1 : 1 ≤ r / 2 ^ 52 := by omega
    by_cases e : r / 2 ^ 52 = s / 2 ^ 52
    · rw [e]
      refine Nat.mul_lt_mul_of_pos_right ?_ (Nat.two_pow_pos _)
      omega
    · have q : r / 2 ^ 52 < s / 2 ^ 52 := by omega
      have a : (2 ^ 52 + r % 2 ^ 52) * 2 ^ (r / 2 ^ 52 - 1) < 2 ^ 53 * 2 ^ (r / 2 ^ 52 - 1) :=
        Nat.mul_lt_mul_of_pos_right (by omega) (Nat.two_pow_pos _)
      have b : 2 ^ 53 * 2 ^ (r / 2 ^ 52 - 1) ≤ 2 ^ 52 * 2 ^ (s / 2 ^ 52 - 1) := by
        rw [← Nat.pow_add, ← Nat.pow_add]
        exact Nat.pow_le_pow_right (by omega) (by omega)
      have c : 2 ^ 52 * 2 ^ (s / 2 ^ 52 - 1) ≤ (2 ^ 52 + s % 2 ^ 52) * 2 ^ (s / 2 ^ 52 - 1) :=
        Nat.mul_le_mul_right _ (by omega)
      omega

theorem val_mono {r s : Nat} (h : r ≤ s) : val r ≤ val s := by
  rcases Nat.lt_or_ge r s with h' | h'
  · exact Nat.le_of_lt (val_lt h')
  · have : r = s := by omega
    subst this; exact Nat.le_refl _

theorem val_le_iff {r s : Nat} : val r ≤ val s ↔ r ≤ s := by
  constructor
  · intro h
    rcases Nat.lt_or_ge s r with h' | h'
    · have := val_lt h'; omega
    · exact h'
  · exact val_mono

/-- A word is read. -/
theorem read_pos {r : Nat} (h : r < D.infRung) : D.read r = .number false (mant r) (pl r) := by
  rw [D_inf] at h
  unfold Format.read
  rw [D_sign, D_binade, D_inf, D_least]
  have e1 : r / 2 ^ 63 % 2 = 0 := by omega
  have e2 : r % 2 ^ 63 = r := by omega
  simp only [e1, e2]
  unfold mant pl
  by_cases c : r < 2 ^ 52
  · simp only [c, if_true]; rfl
  · simp only [c, if_false, h, if_true]; rfl

/-- One, in units of the least number above nought. -/
def U : Nat := 2 ^ 1074
theorem U_def : U = 2 ^ 1074 := by delta U; exact Eq.refl _
theorem U_pos : 0 < U := by rw [U_def]; exact Nat.two_pow_pos 1074
attribute [irreducible] U

/-- A whole number that fits the fraction is exact. -/
theorem rung_whole {n : Nat} (h0 : 1 ≤ n) (h : n < 2 ^ 53) : val (rung D n 0) = n * U ∧ rung D n 0 < D.infRung := by
  have hn : n ≠ 0 := by omega
  have hl : n.log2 < 53 := (Nat.log2_lt hn).2 h
  have l1 : 2 ^ n.log2 ≤ n := Nat.log2_self_le hn
  have l2 : n < 2 ^ (n.log2 + 1) := Nat.lt_log2_self
  unfold rung
  simp only [hn, if_false]
  rw [D_fb, D_least, D_binade, D_inf]
  have e : max (0 + (n.log2 : Int) - (52 : Nat)) (-1074) = (n.log2 : Int) - 52 := by omega
  rw [e]
  have ek : keep n 0 ((n.log2 : Int) - 52) = n * 2 ^ (52 - n.log2) := by
    unfold keep
    have a1 : ((0 : Int) - ((n.log2 : Int) - 52)).toNat = 52 - n.log2 := by omega
    have a2 : (((n.log2 : Int) - 52) - 0).toNat = 0 := by omega
    rw [a1, a2, Nat.shiftLeft_eq]
    have := rhe_exact (n * 2 ^ (52 - n.log2)) 1 (by omega)
    rw [Nat.mul_one] at this
    exact this
  rw [ek]
  have et : (((n.log2 : Int) - 52) - (-1074)).toNat = n.log2 + 1022 := by omega
  rw [et]
  have k1 : 2 ^ 52 ≤ n * 2 ^ (52 - n.log2) := by
    refine Nat.le_trans ?_ (Nat.mul_le_mul_right _ l1)
    rw [← Nat.pow_add]
    exact Nat.pow_le_pow_right (by omega) (by omega)
  have k2 : n * 2 ^ (52 - n.log2) < 2 ^ 53 := by
    refine Nat.lt_of_lt_of_le (Nat.mul_lt_mul_of_pos_right l2 (Nat.two_pow_pos _)) ?_
    rw [← Nat.pow_add]
    exact Nat.pow_le_pow_right (by omega) (by omega)
  generalize hk : n * 2 ^ (52 - n.log2) = k at *
  have lt : (n.log2 + 1022) * 2 ^ 52 + k < 2047 * 2 ^ 52 := by omega
  rw [Nat.min_eq_left (Nat.le_of_lt lt)]
  refine ⟨?_, lt⟩
  unfold val
  have c : ¬ (n.log2 + 1022) * 2 ^ 52 + k < 2 ^ 52 := by omega
  simp only [c, if_false]
  have d1 : ((n.log2 + 1022) * 2 ^ 52 + k) / 2 ^ 52 - 1 = n.log2 + 1022 := by omega
  have d2 : 2 ^ 52 + ((n.log2 + 1022) * 2 ^ 52 + k) % 2 ^ 52 = k := by omega
  rw [d1, d2, ← hk, Nat.mul_assoc, ← Nat.pow_add, U_def]
  rw [show 52 - n.log2 + (n.log2 + 1022) = 1074 by omega]

theorem cut_zero (neg : Bool) (n d : Nat) : Toward.zero.cut neg n d = n / 2 ^ d := by
  unfold Toward.cut
  simp only [Nat.one_shiftLeft, Bool.toNat_false, Nat.add_zero]
  by_cases h : d ≤ n.log2 + 2
  · rw [Nat.min_eq_left h]
  · have h' : n.log2 + 2 ≤ d := by omega
    rw [Nat.min_eq_right h']
    have a : n < 2 ^ (n.log2 + 1) := Nat.lt_log2_self
    have b : 2 ^ (n.log2 + 1) ≤ 2 ^ (n.log2 + 2) := Nat.pow_le_pow_right (by omega) (by omega)
    have c : 2 ^ (n.log2 + 2) ≤ 2 ^ d := Nat.pow_le_pow_right (by omega) h'
    rw [Nat.div_eq_of_lt (by omega), Nat.div_eq_of_lt (by omega)]

/-- A float made whole, cut towards nought. -/
theorem toInt_pos {r : Nat} (h : r < D.infRung) : (D.read r).toInt .zero = some ((val r / U : Nat) : Int) := by
  rw [read_pos h]
  unfold Datum.toInt Datum.integral
  simp only [cut_zero, signed, if_false, Nat.shiftLeft_zero, Bool.false_eq_true]
  rw [← at_val]
  unfold at_
  have hp := pl_ge r
  congr 2
  rewrite [Nat.shiftLeft_eq, U_def]
  rcases Int.le_total 0 (pl r) with g | g
  · have a1 : (-pl r).toNat = 0 := by omega
    have a2 : (pl r - -1074).toNat = (pl r).toNat + 1074 := by omega
    rw [a1, a2, Nat.pow_add, ← Nat.mul_assoc, Nat.mul_div_cancel _ (Nat.two_pow_pos 1074), Nat.pow_zero, Nat.div_one]
  · have a1 : (pl r).toNat = 0 := by omega
    have a2 : 1074 = (-pl r).toNat + (pl r - -1074).toNat := by omega
    rw [a1]
    conv => rhs; rw [a2]
    rw [Nat.pow_add, Nat.pow_zero, Nat.mul_one, Nat.mul_div_mul_right _ _ (Nat.two_pow_pos _)]

end Flo
end Go.Proofs.YtmaohnbddlccdaaGreat.NR
end

/- Plain mathematics of floats: how two words stand to each other. -/
section
namespace Go.Proofs.YtmaohnbddlccdaaGreat.NR
open Ieee
namespace Flo

/-- The rung of a word, and its sign. -/
def rg (w : Nat) : Nat := w % 2 ^ 63
def sg (w : Nat) : Bool := w / 2 ^ 63 % 2 == 1
/-- Whether a word is no number. -/
def nanW (w : Nat) : Bool := decide (D.infRung < rg w)
/-- Where a word lies, in units of the least number above nought; infinity above all. -/
def key (w : Nat) : Int := if sg w then -(val (rg w) : Int) else (val (rg w) : Int)

theorem read_word (w : Nat) : D.read w = if rg w < D.infRung then .number (sg w) (mant (rg w)) (pl (rg w))
    else if rg w = D.infRung then .infinity (sg w) else .nan (sg w) (rg w - D.infRung) := by
  unfold Format.read
  rw [D_sign, D_binade, D_inf, D_least]
  unfold rg sg mant pl
  simp only
  generalize w % 2 ^ 63 = r
  by_cases c : r < 2 ^ 52
  · have c' : r < 2047 * 2 ^ 52 := by omega
    simp only [c, c', if_true]
  · simp only [c, if_false]

theorem sgn_key {s : Bool} {r : Nat} {b : Int} (_hb : b ≤ pl r) : signed s (mant r) (pl r - b).toNat = (if s then -1 else 1) * (at_ b (mant r) (pl r) : Int) := by
  unfold signed at_
  rw [Nat.shiftLeft_eq]
  cases s <;> simp

theorem compare_mul {a b : Int} {k : Nat} (hk : 0 < k) : compare (a * k) (b * k) = compare a b := by
  have hk' : (0 : Int) < k := by omega
  rcases Int.lt_trichotomy a b with h | h | h
  · rw [Int.compare_eq_lt.2 h, Int.compare_eq_lt.2 (Int.mul_lt_mul_of_pos_right h hk')]
  · subst h; simp
  · rw [Int.compare_eq_gt.2 h, Int.compare_eq_gt.2 (Int.mul_lt_mul_of_pos_right h hk')]

theorem order_keys (x y : Nat) (hx : nanW x = false) (hy : nanW y = false) : D.order x y = some (compare (key x) (key y)) := by
  unfold nanW at hx hy
  have hx' : rg x ≤ D.infRung := by simpa using hx
  have hy' : rg y ≤ D.infRung := by simpa using hy
  unfold Format.order
  rw [read_word x, read_word y]
  have ip : 0 < val D.infRung := by have := val_lt (r := 0) (s := D.infRung) (by rw [D_inf]; omega); omega
  by_cases cx : rg x < D.infRung
  · by_cases cy : rg y < D.infRung
    · simp only [cx, cy, if_true, Datum.order]
      congr 1
      have px := pl_ge (rg x)
      have py := pl_ge (rg y)
      have mb : (-1074 : Int) ≤ min (pl (rg x)) (pl (rg y)) := by omega
      rw [sgn_key (b := min (pl (rg x)) (pl (rg y))) (by omega), sgn_key (b := min (pl (rg x)) (pl (rg y))) (by omega)]
      unfold key
      rw [← at_val (rg x), ← at_val (rg y), at_shift mb (by omega : _ ≤ pl (rg x)), at_shift mb (by omega : _ ≤ pl (rg y))]
      rw [← compare_mul (k := 2 ^ (min (pl (rg x)) (pl (rg y)) - -1074).toNat) (Nat.two_pow_pos _)]
      generalize 2 ^ (min (pl (rg x)) (pl (rg y)) - -1074).toNat = k
      generalize at_ _ (mant (rg x)) (pl (rg x)) = a
      generalize at_ _ (mant (rg y)) (pl (rg y)) = b
      congr 1
      · cases sg x <;> simp [Int.neg_mul]
      · cases sg y <;> simp [Int.neg_mul]
    · have ey : rg y = D.infRung := by omega
      have lx := val_lt cx
      simp only [cx, if_true, ey, Nat.lt_irrefl, if_false, Datum.order]
      congr 1
      unfold key
      rw [ey]
      cases sg y
      · simp only [Bool.false_eq_true, if_false]
        exact (Int.compare_eq_lt.2 (by split <;> omega)).symm
      · simp only [if_true]
        exact (Int.compare_eq_gt.2 (by split <;> omega)).symm
  · have ex : rg x = D.infRung := by omega
    by_cases cy : rg y < D.infRung
    · have ly := val_lt cy
      simp only [cy, if_true, ex, Nat.lt_irrefl, if_false, Datum.order]
      congr 1
      unfold key
      rw [ex]
      cases sg x
      · simp only [Bool.false_eq_true, if_false]
        exact (Int.compare_eq_gt.2 (by split <;> omega)).symm
      · simp only [if_true]
        exact (Int.compare_eq_lt.2 (by split <;> omega)).symm
    · have ey : rg y = D.infRung := by omega
      simp only [ex, ey, Nat.lt_irrefl, if_false, if_true, Datum.order]
      congr 1
      unfold key
      rw [ex, ey]
      generalize val D.infRung = v at *
      cases sg x <;> cases sg y <;> simp only [if_true, if_false, Bool.false_eq_true, Bool.toNat_false, Bool.toNat_true]
      · simp
      · exact (Int.compare_eq_gt.2 (by omega)).symm
      · exact (Int.compare_eq_lt.2 (by omega)).symm
      · simp

theorem order_nan_l (x y : Nat) (hx : nanW x = true) : D.order x y = none := by
  unfold nanW at hx
  have hx' : D.infRung < rg x := by simpa using hx
  unfold Format.order
  rw [read_word x]
  have c1 : ¬ rg x < D.infRung := by omega
  have c2 : ¬ rg x = D.infRung := by omega
  simp only [c1, c2, if_false]
  rfl

theorem order_nan_r (x y : Nat) (hy : nanW y = true) : D.order x y = none := by
  unfold nanW at hy
  have hy' : D.infRung < rg y := by simpa using hy
  unfold Format.order
  rw [read_word y]
  have c1 : ¬ rg y < D.infRung := by omega
  have c2 : ¬ rg y = D.infRung := by omega
  simp only [c1, c2, if_false]
  cases D.read x <;> rfl

end Flo
end Go.Proofs.YtmaohnbddlccdaaGreat.NR
end

/- Plain mathematics of floats: the product of a whole number and a part, made whole; it rises with both. -/
section
namespace Go.Proofs.YtmaohnbddlccdaaGreat.NR
open Ieee
namespace Flo

theorem Le.mul2 {a c d e : Nat} {p q r s : Int} (h : Le a p c q) (g : Le d r e s) : Le (a * d) (p + r) (c * e) (q + s) := by
  rw [le_iff (b := min p q + min r s) (by omega) (by omega)]
  have e1 : ∀ (m n : Nat) (i j : Int), min p q ≤ i → min r s ≤ j → at_ (min p q + min r s) (m * n) (i + j) = at_ (min p q) m i * at_ (min r s) n j := by
    intro m n i j hi hj
    unfold at_
    have : (i + j - (min p q + min r s)).toNat = (i - min p q).toNat + (j - min r s).toNat := by omega
    rw [this, Nat.pow_add, Nat.mul_mul_mul_comm]
  rw [e1 a d p r (by omega) (by omega), e1 c e q s (by omega) (by omega)]
  exact Nat.mul_le_mul h g

theorem at_whole (k : Nat) : at_ (-1074) k 0 = k * U := by
  unfold at_
  have : ((0 : Int) - -1074).toNat = 1074 := by omega
  rewrite [this, U_def]
  exact Eq.refl _

theorem le_whole {r k : Nat} : Le (mant r) (pl r) k 0 ↔ val r ≤ k * U := by
  rw [le_iff (pl_ge r) (by omega : (-1074 : Int) ≤ 0), at_val, at_whole]

theorem whole_le {r k : Nat} : Le k 0 (mant r) (pl r) ↔ k * U ≤ val r := by
  rw [le_iff (by omega : (-1074 : Int) ≤ 0) (pl_ge r), at_val, at_whole]

theorem le_vals {r s : Nat} : Le (mant r) (pl r) (mant s) (pl s) ↔ val r ≤ val s := by
  rw [le_iff (pl_ge r) (pl_ge s), at_val, at_val]

/-- The word of a whole number. -/
def whole (k : Nat) : Nat := rung D k 0

theorem whole_val {k : Nat} (h0 : 1 ≤ k) (h : k < 2 ^ 53) : val (whole k) = k * U := (rung_whole h0 h).1
theorem whole_lt {k : Nat} (h0 : 1 ≤ k) (h : k < 2 ^ 53) : whole k < D.infRung := (rung_whole h0 h).2

theorem word_pos (r : Nat) : D.word false r = r := by
  unfold Format.word; rw [if_neg (by decide)]
theorem fmt : FloatKind.f64.format = D := rfl

theorem floatOf (k : Nat) : floatOfInt .f64 (k : Int) = whole k := by
  unfold floatOfInt FloatKind.nearest FloatKind.encode
  have : ¬ ((k : Int) < 0) := by omega
  simp only [Format.write, this, decide_false, Int.natAbs_natCast]
  rw [fmt, nearest_rung, word_pos]
  rfl

/-- The rung of the product of a whole number and a positive float. -/
def prod (k w : Nat) : Nat := rung D (k * mant (rg w)) (pl (rg w))

theorem mul_part {k w : Nat} (h0 : 1 ≤ k) (h : k < 2 ^ 53) (hs : sg w = false) (hf : rg w < D.infRung) :
    D.mul (whole k) w = some (prod k w) := by
  unfold Format.mul
  rw [read_pos (whole_lt h0 h), read_word w]
  simp only [hf, if_true, hs, Datum.product, Option.map_some, Format.write, nearest_rung, Bool.xor_false, word_pos]
  congr 1
  have e := whole_val h0 h
  unfold prod
  have a : Le (mant (whole k) * mant (rg w)) (pl (whole k) + pl (rg w)) (k * mant (rg w)) (0 + pl (rg w)) :=
    (le_whole.2 (by omega)).mul2 (Le.refl _ _)
  have b : Le (k * mant (rg w)) (0 + pl (rg w)) (mant (whole k) * mant (rg w)) (pl (whole k) + pl (rg w)) :=
    (whole_le.2 (by omega)).mul2 (Le.refl _ _)
  rw [Int.zero_add] at a b
  exact Nat.le_antisymm (rung_mono D a) (rung_mono D b)

theorem prod_mono {k l w v : Nat} (h : k ≤ l) (g : val (rg w) ≤ val (rg v)) : prod k w ≤ prod l v :=
  rung_mono D ((le_vals.2 g).mul h)

theorem prod_le {k w : Nat} (g : val (rg w) ≤ U) : prod k w ≤ whole k := by
  have := (le_whole (r := rg w) (k := 1)).2 (by omega)
  have t := this.mul (Nat.le_refl k)
  rw [Nat.mul_one] at t
  exact rung_mono D t

theorem prod_lt {k w : Nat} (h0 : 1 ≤ k) (h : k < 2 ^ 53) (g : val (rg w) ≤ U) : prod k w < D.infRung :=
  Nat.lt_of_le_of_lt (prod_le g) (whole_lt h0 h)

theorem prod_val {k w : Nat} (h0 : 1 ≤ k) (h : k < 2 ^ 53) (g : val (rg w) ≤ U) : val (prod k w) ≤ k * U := by
  rw [← whole_val h0 h]; exact val_mono (prod_le g)

theorem prod_int {k w : Nat} (h0 : 1 ≤ k) (h : k < 2 ^ 53) (g : val (rg w) ≤ U) :
    (D.read (prod k w)).toInt .zero = some ((val (prod k w) / U : Nat) : Int) := toInt_pos (prod_lt h0 h g)

theorem prod_cut {k w : Nat} (h0 : 1 ≤ k) (h : k < 2 ^ 53) (g : val (rg w) ≤ U) : val (prod k w) / U ≤ k := by
  have a := Nat.div_le_div_right (c := U) (prod_val h0 h g)
  rwa [Nat.mul_div_cancel _ U_pos] at a

theorem key_pos {w : Nat} (h : 0 < key w) : sg w = false ∧ key w = val (rg w) := by
  unfold key at *
  cases e : sg w
  · simp
  · rw [e] at h; simp only [if_true] at h; omega

theorem val_inf : U < val D.infRung := by
  have h1 := whole_val (k := 1) (by omega) (by omega)
  have h2 := val_lt (whole_lt (k := 1) (by omega) (by omega))
  omega

/-- Below one: finite. -/
theorem small_fin {w : Nat} (h : val (rg w) ≤ U) : rg w < D.infRung := by
  have := val_inf
  rcases Nat.lt_or_ge (rg w) D.infRung with c | c
  · exact c
  · have := val_mono c; omega

theorem val_zero : val 0 = 0 := by unfold val; rw [if_pos (by omega)]
theorem key_zero : key 0 = 0 := by
  have e1 : sg 0 = false := by unfold sg; simp
  have e2 : rg 0 = 0 := by unfold rg; simp
  unfold key; rw [e1, e2, val_zero]; rfl
theorem key_nzero : key (2 ^ 63) = 0 := by
  have e2 : rg (2 ^ 63) = 0 := by unfold rg; simp
  unfold key; rw [e2, val_zero]; split <;> rfl
theorem val_one : val (1023 * 2 ^ 52) = U := by
  unfold val
  rewrite [if_neg (by omega), U_def]
  have e1 : 1023 * 2 ^ 52 % 2 ^ 52 = 0 := by omega
  have e2 : 1023 * 2 ^ 52 / 2 ^ 52 - 1 = 1022 := by omega
  rewrite [e1, e2, Nat.add_zero, ← Nat.pow_add 2 52 1022, show 52 + 1022 = 1074 from rfl]
  exact Eq.refl _
theorem key_one : key (1023 * 2 ^ 52) = U := by
  have e1 : sg (1023 * 2 ^ 52) = false := by unfold sg; simp
  have e2 : rg (1023 * 2 ^ 52) = 1023 * 2 ^ 52 := by unfold rg; omega
  unfold key
  rw [e1, e2, val_one]
  rfl

/-- The document's Part, of a whole number and a word. -/
def partV (n : Int) (w : Nat) : Int :=
  if n < 1 ∨ nanW w = true ∨ key w ≤ 0 then 0
  else if (U : Int) ≤ key w then min n (2 ^ 40)
  else ((val (prod (min n (2 ^ 40)).toNat w) / U : Nat) : Int)

theorem partV_range (n : Int) (w : Nat) : 0 ≤ partV n w ∧ (partV n w = 0 ∨ partV n w ≤ min n (2 ^ 40)) := by
  unfold partV
  split
  · omega
  · split
    · omega
    · rename_i h1 h2
      have hk : 0 < key w := by omega
      obtain ⟨_, hv⟩ := key_pos hk
      have c := prod_cut (k := (min n (2 ^ 40)).toNat) (w := w) (by omega) (by omega) (by omega)
      generalize val (prod (min n (2 ^ 40)).toNat w) / U = q at *
      omega

theorem partV_rises {n : Int} {a b : Nat} (_ha : nanW a = false) (hb : nanW b = false) (h : key a ≤ key b) : partV n a ≤ partV n b := by
  have rb := partV_range n b
  by_cases c : n < 1 ∨ nanW a = true ∨ key a ≤ 0
  · have : partV n a = 0 := by unfold partV; rw [if_pos c]
    omega
  · have d : ¬ (n < 1 ∨ nanW b = true ∨ key b ≤ 0) := by
      rintro (x | x | x)
      · exact c (Or.inl x)
      · rw [hb] at x; cases x
      · exact c (Or.inr (Or.inr (by omega)))
    have ca : 0 < key a := by
      rcases Int.lt_or_le 0 (key a) with z | z
      · exact z
      · exact absurd (Or.inr (Or.inr z)) c
    obtain ⟨_, ka⟩ := key_pos ca
    obtain ⟨_, kb⟩ := key_pos (w := b) (by omega)
    by_cases u : (U : Int) ≤ key b
    · have eb : partV n b = min n (2 ^ 40) := by unfold partV; rw [if_neg d, if_pos u]
      have ra := partV_range n a
      omega
    · have u' : ¬ (U : Int) ≤ key a := by omega
      unfold partV
      rw [if_neg c, if_neg u', if_neg d, if_neg u]
      have p := prod_mono (k := (min n (2 ^ 40)).toNat) (l := (min n (2 ^ 40)).toNat) (w := a) (v := b) (Nat.le_refl _) (by omega)
      exact Int.ofNat_le.2 (Nat.div_le_div_right (val_mono p))

theorem partV_more {n m : Int} {a : Nat} (h : n ≤ m) : partV n a ≤ partV m a := by
  have rm := partV_range m a
  by_cases c : n < 1 ∨ nanW a = true ∨ key a ≤ 0
  · have : partV n a = 0 := by unfold partV; rw [if_pos c]
    omega
  · have d : ¬ (m < 1 ∨ nanW a = true ∨ key a ≤ 0) := by
      rintro (x | x | x)
      · exact c (Or.inl (by omega))
      · exact c (Or.inr (Or.inl x))
      · exact c (Or.inr (Or.inr x))
    by_cases u : (U : Int) ≤ key a
    · have ea : partV n a = min n (2 ^ 40) := by unfold partV; rw [if_neg c, if_pos u]
      have eb : partV m a = min m (2 ^ 40) := by unfold partV; rw [if_neg d, if_pos u]
      omega
    · unfold partV
      rw [if_neg c, if_neg u, if_neg d, if_neg u]
      have p := prod_mono (k := (min n (2 ^ 40)).toNat) (l := (min m (2 ^ 40)).toNat) (w := a) (v := a) (by omega) (Nat.le_refl _)
      exact Int.ofNat_le.2 (Nat.div_le_div_right (val_mono p))

end Flo
end Go.Proofs.YtmaohnbddlccdaaGreat.NR
end

/- Plain mathematics of floats: comparisons by key; quotients, sums and differences that are numbers. -/
section
namespace Go.Proofs.YtmaohnbddlccdaaGreat.NR
open Ieee
namespace Flo

/-- The comparisons, as the walk leaves them. -/
theorem ord_lt (x y : Nat) : (D.order x y == some .lt) = (!nanW x && !nanW y && decide (key x < key y)) := by
  cases hx : nanW x
  · cases hy : nanW y
    · rw [order_keys x y hx hy]
      rcases Int.lt_trichotomy (key x) (key y) with h | h | h
      · rw [Int.compare_eq_lt.2 h]; simp [h]
      · rw [Int.compare_eq_eq.2 h]; simp [h]
      · rw [Int.compare_eq_gt.2 h]
        have : ¬ key x < key y := by omega
        simp [this]
    · rw [order_nan_r x y hy]; rfl
  · rw [order_nan_l x y hx]; rfl

theorem ord_gt (x y : Nat) : (D.order x y == some .gt) = (!nanW x && !nanW y && decide (key y < key x)) := by
  cases hx : nanW x
  · cases hy : nanW y
    · rw [order_keys x y hx hy]
      rcases Int.lt_trichotomy (key x) (key y) with h | h | h
      · rw [Int.compare_eq_lt.2 h]
        have : ¬ key y < key x := by omega
        simp [this]
      · rw [Int.compare_eq_eq.2 h]; simp [h]
      · rw [Int.compare_eq_gt.2 h]; simp [h]
    · rw [order_nan_r x y hy]; rfl
  · rw [order_nan_l x y hx]; rfl

theorem ord_eq (x y : Nat) : (D.order x y == some .eq) = (!nanW x && !nanW y && decide (key x = key y)) := by
  cases hx : nanW x
  · cases hy : nanW y
    · rw [order_keys x y hx hy]
      rcases Int.lt_trichotomy (key x) (key y) with h | h | h
      · rw [Int.compare_eq_lt.2 h]
        have : ¬ key x = key y := by omega
        simp [this]
      · rw [Int.compare_eq_eq.2 h]; simp [h]
      · rw [Int.compare_eq_gt.2 h]
        have : ¬ key x = key y := by omega
        simp [this]
    · rw [order_nan_r x y hy]; rfl
  · rw [order_nan_l x y hx]; rfl

theorem ord_le (x y : Nat) : (D.order x y == some .lt || D.order x y == some .eq) = (!nanW x && !nanW y && decide (key x ≤ key y)) := by
  rw [ord_lt, ord_eq]
  cases nanW x <;> cases nanW y <;> simp
  rw [← Bool.decide_or]
  congr 1
  exact propext ⟨fun h => by omega, fun h => by omega⟩

theorem ord_ge (x y : Nat) : (D.order x y == some .gt || D.order x y == some .eq) = (!nanW x && !nanW y && decide (key y ≤ key x)) := by
  rw [ord_gt, ord_eq]
  cases nanW x <;> cases nanW y <;> simp
  rw [← Bool.decide_or]
  congr 1
  exact propext ⟨fun h => by omega, fun h => by omega⟩

/-- 'x != x' tells the words that are no number. -/
theorem ord_self (x : Nat) : (D.order x x != some .eq) = nanW x := by
  rw [bne, ord_eq]
  cases nanW x <;> simp

theorem rg_word (neg : Bool) {r : Nat} (h : r ≤ D.infRung) : rg (D.word neg r) = r ∧ sg (D.word neg r) = neg := by
  rw [D_inf] at h
  unfold rg sg Format.word
  rw [D_sign]
  cases neg
  · refine ⟨?_, ?_⟩
    · simp only [Bool.false_eq_true, if_false]; omega
    · simp only [Bool.false_eq_true, if_false]
      have : r / 2 ^ 63 % 2 = 0 := by omega
      rw [this]; rfl
  · refine ⟨?_, ?_⟩
    · simp only [if_true]; omega
    · simp only [if_true]
      have : (2 ^ 63 + r) / 2 ^ 63 % 2 = 1 := by omega
      rw [this]; rfl

theorem rung_le (m : Nat) (p : Int) : rung D m p ≤ D.infRung := by
  unfold rung
  split
  · omega
  · exact Nat.min_le_right _ _

/-- What is written of a number or an infinity is a number again. -/
theorem write_fit (d : Datum) (h : d.isNaN = false) : nanW (D.write d) = false := by
  cases d with
  | number neg mag place =>
    show nanW (D.nearest neg mag place) = false
    rw [nearest_rung]
    unfold nanW
    rw [(rg_word neg (rung_le mag place)).1]
    have := rung_le mag place
    exact decide_eq_false (by omega)
  | infinity neg =>
    show nanW (D.word neg D.infRung) = false
    unfold nanW
    rw [(rg_word neg (Nat.le_refl _)).1]
    exact decide_eq_false (by omega)
  | nan neg fraction => cases h

theorem nan_read (w : Nat) : (D.read w).isNaN = nanW w := by
  rw [read_word]
  unfold nanW
  by_cases c : rg w < D.infRung
  · rw [if_pos c]
    have : ¬ D.infRung < rg w := by omega
    rw [decide_eq_false this]; rfl
  · rw [if_neg c]
    by_cases e : rg w = D.infRung
    · rw [if_pos e]
      have : ¬ D.infRung < rg w := by omega
      rw [decide_eq_false this]; rfl
    · rw [if_neg e]
      have : D.infRung < rg w := by omega
      rw [decide_eq_true this]; rfl

/-- A sum with a finite one is a number where the other is. -/
theorem sum_fin {d e : Datum} {s : Bool} {m : Nat} {p : Int} (hd : d = .number s m p) (he : e.isNaN = false) : ∃ t, d.sum e = some t ∧ t.isNaN = false := by
  subst hd
  cases e with
  | number => exact ⟨_, rfl, rfl⟩
  | infinity => exact ⟨_, rfl, rfl⟩
  | nan => cases he

theorem opp_nan (d : Datum) : d.opposite.isNaN = d.isNaN := by cases d <;> rfl

theorem sub_fin {x y : Nat} (hx : rg x < D.infRung) (hy : nanW y = false) : ∃ r, D.sub x y = some r ∧ nanW r = false := by
  have rx := read_word x
  rw [if_pos hx] at rx
  obtain ⟨t, h1, h2⟩ := sum_fin rx (e := (D.read y).opposite) (by rw [opp_nan, nan_read, hy])
  exact ⟨D.write t, by unfold Format.sub; rw [h1]; rfl, write_fit t h2⟩

theorem add_zero_fit {x : Nat} (hx : nanW x = false) : ∃ r, D.add x 0 = some r ∧ nanW r = false := by
  have r0 : D.read 0 = .number false (mant 0) (pl 0) := read_pos (by rw [D_inf]; omega)
  have hn : (D.read x).isNaN = false := by rw [nan_read, hx]
  unfold Format.add
  rw [r0]
  revert hn
  cases D.read x with
  | number => intro _; exact ⟨_, rfl, write_fit _ rfl⟩
  | infinity => intro _; exact ⟨_, rfl, write_fit _ rfl⟩
  | nan => intro h; cases h

/-- A quotient of what is no greater is no more than one. -/
theorem quot_le {m n more E : Nat} (hn : n ≠ 0) (h : m <<< more ≤ n * 2 ^ E) :
    2 * ((m <<< more) / n) + ((m <<< more) % n != 0).toNat ≤ 2 ^ (E + 1) := by
  generalize m <<< more = d at *
  have a := Nat.div_add_mod d n
  have q : d / n ≤ 2 ^ E := by
    have := Nat.div_le_div_right (c := n) h
    rwa [Nat.mul_comm, Nat.mul_div_cancel _ (Nat.pos_of_ne_zero hn)] at this
  have b1 : ∀ b : Bool, b.toNat ≤ 1 := by decide
  have b2 := b1 (d % n != 0)
  rw [Nat.pow_succ]
  by_cases e : d / n = 2 ^ E
  · have z : d % n = 0 := by rw [e] at a; omega
    have : (d % n != 0) = false := by rw [z]; rfl
    rw [this]
    simp only [Bool.toNat_false]
    omega
  · omega

theorem div_part {k l : Nat} (hk : k ≤ l) (h0 : 1 ≤ l) (h : l < 2 ^ 53) : ∃ q, D.div (whole k) (whole l) = some q ∧ sg q = false ∧ val (rg q) ≤ U := by
  have hl := whole_val h0 h
  have rk : whole k < D.infRung ∧ val (whole k) = k * U := by
    by_cases c : k = 0
    · subst c
      have : whole 0 = 0 := by unfold whole rung; rw [if_pos rfl]
      rw [this, val_zero]
      exact ⟨by rw [D_inf]; omega, by omega⟩
    · exact ⟨whole_lt (by omega) (by omega), whole_val (by omega) (by omega)⟩
  have le : Le (mant (whole k)) (pl (whole k)) (mant (whole l)) (pl (whole l)) := by
    rw [le_vals, rk.2, hl]; exact Nat.mul_le_mul_right _ hk
  have nz : mant (whole l) ≠ 0 := by
    intro e
    have := at_val (whole l)
    rw [e, hl] at this
    unfold at_ at this
    rw [Nat.zero_mul] at this
    have := Nat.mul_pos h0 U_pos
    omega
  unfold Format.div
  rw [read_pos rk.1, read_pos (whole_lt h0 h)]
  generalize mant (whole k) = m at *
  generalize mant (whole l) = n at *
  generalize pl (whole k) = i at *
  generalize pl (whole l) = j at *
  simp only [Datum.quotient, nz, if_false, Option.map_some, D_fb]
  generalize hmore : 52 + 2 + n.log2 - m.log2 = more
  have key : rung D (2 * ((m <<< more) / n) + ((m <<< more) % n != 0).toNat) (i - j - more - 1) ≤ whole 1 := by
    refine rung_mono D ?_
    by_cases mz : m = 0
    · subst mz
      unfold Le at_
      simp
    have lg := log_le mz le
    have eE : 0 ≤ (more : Int) + j - i := by omega
    have hd : m <<< more ≤ n * 2 ^ ((more : Int) + j - i).toNat := by
      rw [Nat.shiftLeft_eq]
      have := (le_iff (b := min i j) (by omega) (by omega)).1 le
      unfold at_ at this
      refine Nat.le_of_mul_le_mul_right ?_ (Nat.two_pow_pos (i - min i j).toNat)
      rw [Nat.mul_assoc, Nat.mul_comm (2 ^ more), ← Nat.mul_assoc, Nat.mul_assoc n, ← Nat.pow_add]
      have t := Nat.mul_le_mul_right (2 ^ more) this
      rw [Nat.mul_assoc n, ← Nat.pow_add] at t
      refine Nat.le_trans t (Nat.mul_le_mul_left n (Nat.pow_le_pow_right (by omega) (by omega)))
    have ql := quot_le nz hd
    rw [le_iff (b := i - j - more - 1) (by omega) (by omega)]
    unfold at_
    have z : ((i - j - more - 1) - (i - j - more - 1)).toNat = 0 := by omega
    rw [z, Nat.pow_zero, Nat.mul_one, Nat.one_mul]
    refine Nat.le_trans ql (Nat.pow_le_pow_right (by omega) (by omega))
  refine ⟨_, rfl, ?_⟩
  simp only [Format.write, nearest_rung, Bool.xor_false]
  have f := rg_word false (rung_le (2 * ((m <<< more) / n) + ((m <<< more) % n != 0).toNat) (i - j - more - 1))
  refine ⟨f.2, ?_⟩
  rw [f.1]
  have := val_mono key
  rw [whole_val (by omega) (by omega), Nat.one_mul] at this
  exact this

end Flo
end Go.Proofs.YtmaohnbddlccdaaGreat.NR
end

/- Plain mathematics of floats: the sign turned round; the product as the walk makes it. -/
section
namespace Go.Proofs.YtmaohnbddlccdaaGreat.NR
open Ieee
namespace Flo

theorem rg_neg (w : Nat) : rg (Op.negFloat .f64 w) = rg w := by
  unfold rg Op.negFloat
  rw [fmt]
  show (w ^^^ 2 ^ 63) % 2 ^ 63 = w % 2 ^ 63
  rw [Nat.xor_mod_two_pow, Nat.mod_self, Nat.xor_zero]

theorem sg_neg (w : Nat) : sg (Op.negFloat .f64 w) = !sg w := by
  unfold sg Op.negFloat
  rw [fmt]
  show ((w ^^^ 2 ^ 63) / 2 ^ 63 % 2 == 1) = _
  rw [Nat.xor_div_two_pow, Nat.div_self (Nat.two_pow_pos _)]
  have h := Nat.xor_mod_two_eq_one (a := w / 2 ^ 63) (b := 1)
  by_cases c : w / 2 ^ 63 % 2 = 1
  · have z : ¬ ((w / 2 ^ 63 ^^^ 1) % 2 = 1) := by rw [h]; simp [c]
    rw [beq_eq_false_iff_ne.2 z, c]; rfl
  · have z : (w / 2 ^ 63 ^^^ 1) % 2 = 1 := by rw [h]; simp [c]
    rw [beq_eq_false_iff_ne.2 c, z]; rfl

theorem nan_neg (w : Nat) : nanW (Op.negFloat .f64 w) = nanW w := by unfold nanW; rw [rg_neg]

theorem key_neg (w : Nat) : key (Op.negFloat .f64 w) = -key w := by
  unfold key
  rw [rg_neg, sg_neg]
  cases sg w <;> simp

/-- The whole number that the walk makes of the product. -/
theorem prod_conv {k w : Nat} (h0 : 1 ≤ k) (h : k < 2 ^ 53) (g : val (rg w) ≤ U) :
    floatToIntVal .f64 (prod k w) .i64 = some ((val (prod k w) / U : Nat) : Int) := by
  unfold floatToIntVal FloatKind.decode
  rw [fmt, prod_int h0 h g]
  have c := prod_cut h0 h g
  have mn : IntKind.min .i64 = -(2 ^ 63) := by decide
  have mx : IntKind.max .i64 = 2 ^ 63 - 1 := by decide
  simp only
  rw [if_pos]
  rw [mn, mx]
  generalize val (prod k w) / U = q at *
  omega

/-- The operations' bits, as the library's laws ask for them. -/
theorem bits_mul {k w : Nat} (h0 : 1 ≤ k) (h : k < 2 ^ 53) (hs : sg w = false) (g : val (rg w) ≤ U) :
    floatBits .mul .f64 (floatOfInt .f64 (k : Int)) w = some (prod k w) := by
  rw [floatOf]; exact mul_part h0 h hs (small_fin g)

theorem prod_sg {k w : Nat} (h0 : 1 ≤ k) (h : k < 2 ^ 53) (g : val (rg w) ≤ U) :
    rg (prod k w) = prod k w ∧ nanW (prod k w) = false ∧ key (prod k w) = val (prod k w) := by
  have l := prod_lt h0 h g
  have e := rg_word false (Nat.le_of_lt l)
  rw [word_pos] at e
  refine ⟨e.1, ?_, ?_⟩
  · unfold nanW; rw [e.1]; exact decide_eq_false (by omega)
  · unfold key; rw [e.1, e.2]; rfl

theorem whole_key {k : Nat} (h0 : 1 ≤ k) (h : k < 2 ^ 53) :
    nanW (whole k) = false ∧ key (whole k) = ((k * U : Nat) : Int) := by
  have l := whole_lt h0 h
  have e := rg_word false (Nat.le_of_lt l)
  rw [word_pos] at e
  refine ⟨?_, ?_⟩
  · unfold nanW; rw [e.1]; exact decide_eq_false (by omega)
  · unfold key; rw [e.1, e.2, whole_val h0 h]; rfl

/-- Where the product is not below the number, cutting it gives the number. -/
theorem prod_top {k w : Nat} (h0 : 1 ≤ k) (h : k < 2 ^ 53) (g : val (rg w) ≤ U) (t : key (whole k) ≤ key (prod k w)) :
    val (prod k w) / U = k := by
  rw [(whole_key h0 h).2, (prod_sg h0 h g).2.2] at t
  have a := prod_val h0 h g
  have e : val (prod k w) = k * U := by omega
  rw [e, Nat.mul_div_cancel _ U_pos]

end Flo
end Go.Proofs.YtmaohnbddlccdaaGreat.NR
end

/- Floats in a walk: comparisons, the library's small functions. -/
section
namespace Go.Proofs.YtmaohnbddlccdaaGreat.NR
open Ieee Go.RowKit
namespace Flo

def ltF (a b : Nat) : Bool := !nanW a && !nanW b && decide (key a < key b)
def leF (a b : Nat) : Bool := !nanW a && !nanW b && decide (key a ≤ key b)
def gtF (a b : Nat) : Bool := !nanW a && !nanW b && decide (key b < key a)
def geF (a b : Nat) : Bool := !nanW a && !nanW b && decide (key b ≤ key a)

theorem t_lt (a b : Nat) : (FloatKind.f64.format.order a b == some .lt) = ltF a b := by rw [fmt, ord_lt]; rfl
theorem t_le (a b : Nat) : (FloatKind.f64.format.order a b == some .lt || FloatKind.f64.format.order a b == some .eq) = leF a b := by rw [fmt, ord_le]; rfl
theorem t_gt (a b : Nat) : (FloatKind.f64.format.order a b == some .gt) = gtF a b := by rw [fmt, ord_gt]; rfl
theorem t_ge (a b : Nat) : (FloatKind.f64.format.order a b == some .gt || FloatKind.f64.format.order a b == some .eq) = geF a b := by rw [fmt, ord_ge]; rfl

theorem nan_zero : nanW 0 = false := by
  unfold nanW
  have : rg 0 = 0 := by unfold rg; simp
  rw [this, D_inf]
  exact decide_eq_false (by omega)
theorem one_def : 4607182418800017408 = 1023 * 2 ^ 52 := by decide
theorem nan_one : nanW 4607182418800017408 = false := by
  unfold nanW
  have : rg 4607182418800017408 = 4607182418800017408 := by unfold rg; omega
  rw [this, D_inf]
  exact decide_eq_false (by omega)
theorem key_one' : key 4607182418800017408 = U := by rw [one_def]; exact key_one

/-- The clearing of a word's sign. -/
theorem clear_sign (b : Nat) (hb : b < 2 ^ 64) : (bits .andNot .u64 (b : Int) 9223372036854775808).toNat = rg b := by
  rw [show (9223372036854775808 : Int) = ((9223372036854775808 : Nat) : Int) from rfl, u64_andNot_nat b 9223372036854775808 (by omega) (by omega)]
  rw [Int.toNat_natCast, show 18446744073709551615 - 9223372036854775808 = 2 ^ 63 - 1 from rfl, Nat.and_two_pow_sub_one_eq_mod]
  rfl
end Flo
open Flo

theorem isnan_any (b : Nat) (W : World) : Calls Tryz.prog 174 #[.float .f64 b] W fun e w' => e = .returned (.bool (nanW b)) ∧ W = w' := by
  go_enter Tryz.func174, Tryz.ntmps174
  go_wp2
  go_ret
  refine ⟨?_, rfl⟩
  show Ending.returned (.bool (FloatKind.f64.format.order b b != some .eq)) = _
  rw [fmt, ord_self]


end Go.Proofs.YtmaohnbddlccdaaGreat.NR
end
