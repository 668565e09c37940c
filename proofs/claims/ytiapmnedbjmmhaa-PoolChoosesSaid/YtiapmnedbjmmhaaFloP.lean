/- Plain mathematics of floats: the product of a whole number and a part, made whole; it rises with both. -/
import Derived.Test.YtiapmnedbjmmhaaFloO
namespace Go.Proofs.Ytiapmnedbjmmhaa
open Ieee
namespace Flo

theorem Le.mul2 {a c d e : Nat} {p q r s : Int} (h : Le a p c q) (g : Le d r e s) : Le (a * d) (p + r) (c * e) (q + s) := by
  rw [le_iff (b := min p q + min r s) (by omega) (by omega)]
  have e1 : ∀ (m n : Nat) (i j : Int), min p q ≤ i → min r s ≤ j → at_ (min p q + min r s) (m * n) (i + j) = at_ (min p q) m i * at_ (min r s) n j := by
    intro m n i j hi hj
    unfold at_
    have : (i + j - (min p q + min r s)).toNat = (i - min p q).toNat + (j - min r s).toNat := by omega
    rw [this, Nat.pow_add, Nat.mul_mul_mul_comm]
  rw [e1 a d p r (by omega) (by omega), e1 c e q s (by omega) (by omega)]
  exact Nat.mul_le_mul h g

theorem at_whole (k : Nat) : at_ (-1074) k 0 = k * U := by
  unfold at_
  have : ((0 : Int) - -1074).toNat = 1074 := by omega
  rewrite [this, U_def]
  exact Eq.refl _

theorem le_whole {r k : Nat} : Le (mant r) (pl r) k 0 ↔ val r ≤ k * U := by
  rw [le_iff (pl_ge r) (by omega : (-1074 : Int) ≤ 0), at_val, at_whole]

theorem whole_le {r k : Nat} : Le k 0 (mant r) (pl r) ↔ k * U ≤ val r := by
  rw [le_iff (by omega : (-1074 : Int) ≤ 0) (pl_ge r), at_val, at_whole]

theorem le_vals {r s : Nat} : Le (mant r) (pl r) (mant s) (pl s) ↔ val r ≤ val s := by
  rw [le_iff (pl_ge r) (pl_ge s), at_val, at_val]

/-- The word of a whole number. -/
def whole (k : Nat) : Nat := rung D k 0

theorem whole_val {k : Nat} (h0 : 1 ≤ k) (h : k < 2 ^ 53) : val (whole k) = k * U := (rung_whole h0 h).1
theorem whole_lt {k : Nat} (h0 : 1 ≤ k) (h : k < 2 ^ 53) : whole k < D.infRung := (rung_whole h0 h).2

theorem word_pos (r : Nat) : D.word false r = r := by
  unfold Format.word; rw [if_neg (by decide)]
theorem fmt : FloatKind.f64.format = D := rfl

theorem floatOf (k : Nat) : floatOfInt .f64 (k : Int) = whole k := by
  unfold floatOfInt FloatKind.nearest FloatKind.encode
  have : ¬ ((k : Int) < 0) := by omega
  simp only [Format.write, this, decide_false, Int.natAbs_natCast]
  rw [fmt, nearest_rung, word_pos]
  rfl

/-- The rung of the product of a whole number and a positive float. -/
def prod (k w : Nat) : Nat := rung D (k * mant (rg w)) (pl (rg w))

theorem mul_part {k w : Nat} (h0 : 1 ≤ k) (h : k < 2 ^ 53) (hs : sg w = false) (hf : rg w < D.infRung) :
    D.mul (whole k) w = some (prod k w) := by
  unfold Format.mul
  rw [read_pos (whole_lt h0 h), read_word w]
  simp only [hf, if_true, hs, Datum.product, Option.map_some, Format.write, nearest_rung, Bool.xor_false, word_pos]
  congr 1
  have e := whole_val h0 h
  unfold prod
  have a : Le (mant (whole k) * mant (rg w)) (pl (whole k) + pl (rg w)) (k * mant (rg w)) (0 + pl (rg w)) :=
    (le_whole.2 (by omega)).mul2 (Le.refl _ _)
  have b : Le (k * mant (rg w)) (0 + pl (rg w)) (mant (whole k) * mant (rg w)) (pl (whole k) + pl (rg w)) :=
    (whole_le.2 (by omega)).mul2 (Le.refl _ _)
  rw [Int.zero_add] at a b
  exact Nat.le_antisymm (rung_mono D a) (rung_mono D b)

theorem prod_mono {k l w v : Nat} (h : k ≤ l) (g : val (rg w) ≤ val (rg v)) : prod k w ≤ prod l v :=
  rung_mono D ((le_vals.2 g).mul h)

theorem prod_le {k w : Nat} (g : val (rg w) ≤ U) : prod k w ≤ whole k := by
  have := (le_whole (r := rg w) (k := 1)).2 (by omega)
  have t := this.mul (Nat.le_refl k)
  rw [Nat.mul_one] at t
  exact rung_mono D t

theorem prod_lt {k w : Nat} (h0 : 1 ≤ k) (h : k < 2 ^ 53) (g : val (rg w) ≤ U) : prod k w < D.infRung :=
  Nat.lt_of_le_of_lt (prod_le g) (whole_lt h0 h)

theorem prod_val {k w : Nat} (h0 : 1 ≤ k) (h : k < 2 ^ 53) (g : val (rg w) ≤ U) : val (prod k w) ≤ k * U := by
  rw [← whole_val h0 h]; exact val_mono (prod_le g)

theorem prod_int {k w : Nat} (h0 : 1 ≤ k) (h : k < 2 ^ 53) (g : val (rg w) ≤ U) :
    (D.read (prod k w)).toInt .zero = some ((val (prod k w) / U : Nat) : Int) := toInt_pos (prod_lt h0 h g)

theorem prod_cut {k w : Nat} (h0 : 1 ≤ k) (h : k < 2 ^ 53) (g : val (rg w) ≤ U) : val (prod k w) / U ≤ k := by
  have a := Nat.div_le_div_right (c := U) (prod_val h0 h g)
  rwa [Nat.mul_div_cancel _ U_pos] at a

theorem key_pos {w : Nat} (h : 0 < key w) : sg w = false ∧ key w = val (rg w) := by
  unfold key at *
  cases e : sg w
  · simp
  · rw [e] at h; simp only [if_true] at h; omega

theorem val_inf : U < val D.infRung := by
  have h1 := whole_val (k := 1) (by omega) (by omega)
  have h2 := val_lt (whole_lt (k := 1) (by omega) (by omega))
  omega

/-- Below one: finite. -/
theorem small_fin {w : Nat} (h : val (rg w) ≤ U) : rg w < D.infRung := by
  have := val_inf
  rcases Nat.lt_or_ge (rg w) D.infRung with c | c
  · exact c
  · have := val_mono c; omega

theorem val_zero : val 0 = 0 := by unfold val; rw [if_pos (by omega)]
theorem key_zero : key 0 = 0 := by
  have e1 : sg 0 = false := by unfold sg; simp
  have e2 : rg 0 = 0 := by unfold rg; simp
  unfold key; rw [e1, e2, val_zero]; rfl
theorem key_nzero : key (2 ^ 63) = 0 := by
  have e2 : rg (2 ^ 63) = 0 := by unfold rg; simp
  unfold key; rw [e2, val_zero]; split <;> rfl
theorem val_one : val (1023 * 2 ^ 52) = U := by
  unfold val
  rewrite [if_neg (by omega), U_def]
  have e1 : 1023 * 2 ^ 52 % 2 ^ 52 = 0 := by omega
  have e2 : 1023 * 2 ^ 52 / 2 ^ 52 - 1 = 1022 := by omega
  rewrite [e1, e2, Nat.add_zero, ← Nat.pow_add 2 52 1022, show 52 + 1022 = 1074 from rfl]
  exact Eq.refl _
theorem key_one : key (1023 * 2 ^ 52) = U := by
  have e1 : sg (1023 * 2 ^ 52) = false := by unfold sg; simp
  have e2 : rg (1023 * 2 ^ 52) = 1023 * 2 ^ 52 := by unfold rg; omega
  unfold key
  rw [e1, e2, val_one]
  rfl

/-- The document's Part, of a whole number and a word. -/
def partV (n : Int) (w : Nat) : Int :=
  if n < 1 ∨ nanW w = true ∨ key w ≤ 0 then 0
  else if (U : Int) ≤ key w then min n (2 ^ 40)
  else ((val (prod (min n (2 ^ 40)).toNat w) / U : Nat) : Int)

theorem partV_range (n : Int) (w : Nat) : 0 ≤ partV n w ∧ (partV n w = 0 ∨ partV n w ≤ min n (2 ^ 40)) := by
  unfold partV
  split
  · omega
  · split
    · omega
    · rename_i h1 h2
      have hk : 0 < key w := by omega
      obtain ⟨_, hv⟩ := key_pos hk
      have c := prod_cut (k := (min n (2 ^ 40)).toNat) (w := w) (by omega) (by omega) (by omega)
      generalize val (prod (min n (2 ^ 40)).toNat w) / U = q at *
      omega

theorem partV_rises {n : Int} {a b : Nat} (_ha : nanW a = false) (hb : nanW b = false) (h : key a ≤ key b) : partV n a ≤ partV n b := by
  have rb := partV_range n b
  by_cases c : n < 1 ∨ nanW a = true ∨ key a ≤ 0
  · have : partV n a = 0 := by unfold partV; rw [if_pos c]
    omega
  · have d : ¬ (n < 1 ∨ nanW b = true ∨ key b ≤ 0) := by
      rintro (x | x | x)
      · exact c (Or.inl x)
      · rw [hb] at x; cases x
      · exact c (Or.inr (Or.inr (by omega)))
    have ca : 0 < key a := by
      rcases Int.lt_or_le 0 (key a) with z | z
      · exact z
      · exact absurd (Or.inr (Or.inr z)) c
    obtain ⟨_, ka⟩ := key_pos ca
    obtain ⟨_, kb⟩ := key_pos (w := b) (by omega)
    by_cases u : (U : Int) ≤ key b
    · have eb : partV n b = min n (2 ^ 40) := by unfold partV; rw [if_neg d, if_pos u]
      have ra := partV_range n a
      omega
    · have u' : ¬ (U : Int) ≤ key a := by omega
      unfold partV
      rw [if_neg c, if_neg u', if_neg d, if_neg u]
      have p := prod_mono (k := (min n (2 ^ 40)).toNat) (l := (min n (2 ^ 40)).toNat) (w := a) (v := b) (Nat.le_refl _) (by omega)
      exact Int.ofNat_le.2 (Nat.div_le_div_right (val_mono p))

theorem partV_more {n m : Int} {a : Nat} (h : n ≤ m) : partV n a ≤ partV m a := by
  have rm := partV_range m a
  by_cases c : n < 1 ∨ nanW a = true ∨ key a ≤ 0
  · have : partV n a = 0 := by unfold partV; rw [if_pos c]
    omega
  · have d : ¬ (m < 1 ∨ nanW a = true ∨ key a ≤ 0) := by
      rintro (x | x | x)
      · exact c (Or.inl (by omega))
      · exact c (Or.inr (Or.inl x))
      · exact c (Or.inr (Or.inr x))
    by_cases u : (U : Int) ≤ key a
    · have ea : partV n a = min n (2 ^ 40) := by unfold partV; rw [if_neg c, if_pos u]
      have eb : partV m a = min m (2 ^ 40) := by unfold partV; rw [if_neg d, if_pos u]
      omega
    · unfold partV
      rw [if_neg c, if_neg u, if_neg d, if_neg u]
      have p := prod_mono (k := (min n (2 ^ 40)).toNat) (l := (min m (2 ^ 40)).toNat) (w := a) (v := a) (by omega) (Nat.le_refl _)
      exact Int.ofNat_le.2 (Nat.div_le_div_right (val_mono p))

end Flo
end Go.Proofs.Ytiapmnedbjmmhaa
