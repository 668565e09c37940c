/- Plain mathematics of floats: rounding is monotone. -/
import Ieee.Arith
namespace Go.Proofs.Ytiapmnedbjmmhaa
open Ieee
namespace Flo

/-- n / g to the nearest, between two the even one. -/
def rhe (n g : Nat) : Nat := n / g + (decide (g < 2 * (n % g)) || (g == 2 * (n % g) && n / g % 2 == 1)).toNat

theorem cut_even (neg : Bool) (n d : Nat) : Toward.even.cut neg n d = rhe n (2 ^ d) := by
  unfold Toward.cut rhe
  simp only [Nat.one_shiftLeft]
  by_cases h : d ≤ n.log2 + 2
  · rw [Nat.min_eq_left h]
  · have h' : n.log2 + 2 ≤ d := by omega
    rw [Nat.min_eq_right h']
    have a : n < 2 ^ (n.log2 + 1) := Nat.lt_log2_self
    have b : 2 ^ (n.log2 + 2) = 2 * 2 ^ (n.log2 + 1) := by rw [Nat.pow_succ]; omega
    have c : 2 ^ (n.log2 + 2) ≤ 2 ^ d := Nat.pow_le_pow_right (by omega) h'
    have e1 : n / 2 ^ (n.log2 + 2) = 0 := Nat.div_eq_of_lt (by omega)
    have e2 : n / 2 ^ d = 0 := Nat.div_eq_of_lt (by omega)
    have e3 : n % 2 ^ (n.log2 + 2) = n := Nat.mod_eq_of_lt (by omega)
    have e4 : n % 2 ^ d = n := Nat.mod_eq_of_lt (by omega)
    rw [e1, e2, e3, e4]
    have f1 : ¬ 2 ^ (n.log2 + 2) < 2 * n := by omega
    have f2 : ¬ 2 ^ d < 2 * n := by omega
    simp [f1, f2]

theorem rhe_mul (n g k : Nat) (hk : 0 < k) : rhe (n * k) (g * k) = rhe n g := by
  unfold rhe
  rw [Nat.mul_div_mul_right _ _ hk, Nat.mul_mod_mul_right]
  have h1 : (g * k < 2 * (n % g * k)) ↔ (g < 2 * (n % g)) := by
    rw [← Nat.mul_assoc]; exact Nat.mul_lt_mul_right hk
  have h2 : (g * k = 2 * (n % g * k)) ↔ (g = 2 * (n % g)) := by
    rw [← Nat.mul_assoc]; exact Nat.mul_right_cancel_iff hk
  simp only [h1]
  congr 3
  by_cases h : g = 2 * (n % g)
  · have := h2.2 h
    simp [this.symm, h.symm]
  · have h' : ¬ (g * k = 2 * (n % g * k)) := fun e => h (h2.1 e)
    rw [beq_eq_false_iff_ne.2 h, beq_eq_false_iff_ne.2 h']

theorem rhe_le (n g : Nat) : rhe n g ≤ n / g + 1 := by
  unfold rhe
  have : ∀ b : Bool, b.toNat ≤ 1 := by decide
  exact Nat.add_le_add_left (this _) _

theorem rhe_ge (n g : Nat) : n / g ≤ rhe n g := by unfold rhe; omega

theorem rhe_mono (g : Nat) (_hg : 0 < g) {n m : Nat} (h : n ≤ m) : rhe n g ≤ rhe m g := by
  have hd : n / g ≤ m / g := Nat.div_le_div_right h
  by_cases e : n / g = m / g
  · have : n % g ≤ m % g := by
      have a := Nat.div_add_mod n g
      have b := Nat.div_add_mod m g
      rw [e] at a
      omega
    unfold rhe
    rw [e]
    by_cases c1 : g < 2 * (n % g)
    · have : g < 2 * (m % g) := by omega
      simp [c1, this]
    · by_cases c2 : g = 2 * (n % g)
      · by_cases c3 : g < 2 * (m % g)
        · have q : ∀ b : Bool, b.toNat ≤ 1 := by decide
          simp only [c3, decide_true, Bool.true_or, Bool.toNat_true]
          exact Nat.add_le_add_left (q _) _
        · have : g = 2 * (m % g) := by omega
          rw [← this, ← c2]
          omega
      · have : (g == 2 * (n % g)) = false := beq_eq_false_iff_ne.2 c2
        simp [c1, this]
  · have := rhe_le n g
    have := rhe_ge m g
    omega

/-- Where the whole is an exact multiple, nothing is lost. -/
theorem rhe_exact (n g : Nat) (hg : 0 < g) : rhe (n * g) g = n := by
  unfold rhe
  rw [Nat.mul_div_cancel _ hg, Nat.mul_mod_left]
  have : ¬ g < 2 * 0 := by omega
  have h2 : (g == 2 * 0) = false := beq_eq_false_iff_ne.2 (by omega)
  simp [this, h2]

/-- m * 2 ^ p, in units of 2 ^ b. -/
def at_ (b : Int) (m : Nat) (p : Int) : Nat := m * 2 ^ (p - b).toNat

/-- a * 2 ^ p is not above c * 2 ^ q. -/
def Le (a : Nat) (p : Int) (c : Nat) (q : Int) : Prop := at_ (min p q) a p ≤ at_ (min p q) c q

theorem at_shift {b b' : Int} {m : Nat} {p : Int} (h : b' ≤ b) (hp : b ≤ p) : at_ b' m p = at_ b m p * 2 ^ (b - b').toNat := by
  unfold at_
  rw [Nat.mul_assoc, ← Nat.pow_add]
  congr 2
  omega

theorem le_iff {a c : Nat} {p q b : Int} (h1 : b ≤ p) (h2 : b ≤ q) : Le a p c q ↔ at_ b a p ≤ at_ b c q := by
  unfold Le
  rw [at_shift (b := min p q) (b' := b) (m := a) (by omega) (by omega), at_shift (b := min p q) (b' := b) (m := c) (by omega) (by omega)]
  exact (Nat.mul_le_mul_right_iff (Nat.two_pow_pos _)).symm

theorem Le.trans {a c d : Nat} {p q r : Int} (h : Le a p c q) (g : Le c q d r) : Le a p d r := by
  have b1 : min p (min q r) ≤ p := by omega
  have b2 : min p (min q r) ≤ q := by omega
  have b3 : min p (min q r) ≤ r := by omega
  rw [le_iff b1 b2] at h
  rw [le_iff b2 b3] at g
  rw [le_iff b1 b3]
  exact Nat.le_trans h g

theorem Le.refl (a : Nat) (p : Int) : Le a p a p := Nat.le_refl _

theorem Le.mul {a c : Nat} {p q : Int} (h : Le a p c q) {n k : Nat} (hn : n ≤ k) : Le (n * a) p (k * c) q := by
  unfold Le at_ at *
  rw [Nat.mul_assoc, Nat.mul_assoc]
  exact Nat.mul_le_mul hn h

/-- the place of the topmost digit grows -/
theorem log_le {a c : Nat} {p q : Int} (ha : a ≠ 0) (h : Le a p c q) : p + a.log2 ≤ q + c.log2 := by
  unfold Le at_ at h
  have hc : c ≠ 0 := by
    intro e; subst e
    have := Nat.mul_pos (Nat.pos_of_ne_zero ha) (Nat.two_pow_pos (p - min p q).toNat)
    omega
  have l1 : 2 ^ a.log2 ≤ a := Nat.log2_self_le ha
  have l2 : c < 2 ^ (c.log2 + 1) := Nat.lt_log2_self
  have l3 : 2 ^ (a.log2 + (p - min p q).toNat) < 2 ^ (c.log2 + 1 + (q - min p q).toNat) := by
    rw [Nat.pow_add, Nat.pow_add 2 (c.log2 + 1)]
    have u := Nat.mul_le_mul_right (2 ^ (p - min p q).toNat) l1
    have v := Nat.mul_lt_mul_of_pos_right l2 (Nat.two_pow_pos (q - min p q).toNat)
    omega
  have := (Nat.pow_lt_pow_iff_right (a := 2) (by omega)).1 l3
  omega

/-- What is kept of mag * 2 ^ place, the last digit kept being at 'last'. -/
def keep (m : Nat) (p last : Int) : Nat := rhe (m <<< (p - last).toNat) (2 ^ (last - p).toNat)

/-- in units of any base -/
theorem keep_at (m : Nat) (p last b : Int) (h1 : b ≤ p) (h2 : b ≤ last) : keep m p last = rhe (at_ b m p) (2 ^ (last - b).toNat) := by
  unfold keep at_
  rw [Nat.shiftLeft_eq, ← rhe_mul _ _ (2 ^ (min p last - b).toNat) (Nat.two_pow_pos _), Nat.mul_assoc, ← Nat.pow_add, ← Nat.pow_add]
  congr 3 <;> omega

theorem keep_mono {a c : Nat} {p q last : Int} (h : Le a p c q) : keep a p last ≤ keep c q last := by
  have b1 : min last (min p q) ≤ p := by omega
  have b2 : min last (min p q) ≤ q := by omega
  have b3 : min last (min p q) ≤ last := by omega
  rw [keep_at a p last _ b1 b3, keep_at c q last _ b2 b3]
  exact rhe_mono _ (Nat.two_pow_pos _) ((le_iff b1 b2).1 h)

theorem keep_low {m : Nat} {p last : Int} {k : Nat} (hm : m ≠ 0) (h : p + m.log2 = last + k) : 2 ^ k ≤ keep m p last := by
  have b1 : min last p ≤ p := by omega
  have b3 : min last p ≤ last := by omega
  rw [keep_at m p last _ b1 b3]
  refine Nat.le_trans ?_ (rhe_ge _ _)
  rw [Nat.le_div_iff_mul_le (Nat.two_pow_pos _), ← Nat.pow_add]
  unfold at_
  have l1 : 2 ^ m.log2 ≤ m := Nat.log2_self_le hm
  refine Nat.le_trans ?_ (Nat.mul_le_mul_right _ l1)
  rw [← Nat.pow_add]
  exact Nat.pow_le_pow_right (by omega) (by omega)

theorem keep_high {m : Nat} {p last : Int} {k : Nat} (h : p + m.log2 ≤ last + k) : keep m p last ≤ 2 ^ (k + 1) := by
  have b1 : min last p ≤ p := by omega
  have b3 : min last p ≤ last := by omega
  rw [keep_at m p last _ b1 b3]
  refine Nat.le_trans (rhe_le _ _) ?_
  have l2 : m < 2 ^ (m.log2 + 1) := Nat.lt_log2_self
  have : at_ (min last p) m p / 2 ^ (last - min last p).toNat < 2 ^ (k + 1) := by
    rw [Nat.div_lt_iff_lt_mul (Nat.two_pow_pos _), ← Nat.pow_add]
    unfold at_
    have v := Nat.mul_lt_mul_of_pos_right l2 (Nat.two_pow_pos (p - min last p).toNat)
    refine Nat.lt_of_lt_of_le v ?_
    rw [← Nat.pow_add]
    exact Nat.pow_le_pow_right (by omega) (by omega)
  omega

/-- The rung that 'nearest' takes. -/
def rung (f : Format) (m : Nat) (p : Int) : Nat :=
  if m = 0 then 0 else
  let last := max (p + m.log2 - f.fractionBits) f.leastPlace
  min ((last - f.leastPlace).toNat * f.binade + keep m p last) f.infRung

theorem nearest_rung (f : Format) (neg : Bool) (m : Nat) (p : Int) : f.nearest neg m p = f.word neg (rung f m p) := by
  unfold Format.nearest rung
  split
  · rfl
  · simp only [cut_even, keep]

/-- ROUNDING IS MONOTONE. -/
theorem rung_mono (f : Format) {a c : Nat} {p q : Int} (h : Le a p c q) : rung f a p ≤ rung f c q := by
  by_cases ha : a = 0
  · simp [rung, ha]
  have hc : c ≠ 0 := by
    intro e; subst e
    unfold Le at_ at h
    have := Nat.mul_pos (Nat.pos_of_ne_zero ha) (Nat.two_pow_pos (p - min p q).toNat)
    omega
  have hl := log_le ha h
  unfold rung
  simp only [ha, hc, if_false]
  generalize e1 : max (p + a.log2 - f.fractionBits) f.leastPlace = l1
  generalize e2 : max (q + c.log2 - f.fractionBits) f.leastPlace = l2
  have hll : l1 ≤ l2 := by omega
  by_cases e : l1 = l2
  · subst e
    have := keep_mono (last := l1) h
    omega
  · have k1 : keep a p l1 ≤ 2 ^ (f.fractionBits + 1) := keep_high (by omega)
    have k2 : 2 ^ f.fractionBits ≤ keep c q l2 := keep_low hc (by omega)
    have s : (l1 - f.leastPlace).toNat + 1 ≤ (l2 - f.leastPlace).toNat := by omega
    have t := Nat.mul_le_mul_right f.binade s
    rw [Nat.add_mul] at t
    unfold Format.binade at *
    rw [Nat.pow_succ] at k1
    omega

end Flo
end Go.Proofs.Ytiapmnedbjmmhaa
