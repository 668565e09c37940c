/- Plain mathematics of floats: how two words stand to each other. -/
import Derived.Test.YtiapmnedbjmmhaaFloV
namespace Go.Proofs.Ytiapmnedbjmmhaa
open Ieee
namespace Flo

/-- The rung of a word, and its sign. -/
def rg (w : Nat) : Nat := w % 2 ^ 63
def sg (w : Nat) : Bool := w / 2 ^ 63 % 2 == 1
/-- Whether a word is no number. -/
def nanW (w : Nat) : Bool := decide (D.infRung < rg w)
/-- Where a word lies, in units of the least number above nought; infinity above all. -/
def key (w : Nat) : Int := if sg w then -(val (rg w) : Int) else (val (rg w) : Int)

theorem read_word (w : Nat) : D.read w = if rg w < D.infRung then .number (sg w) (mant (rg w)) (pl (rg w))
    else if rg w = D.infRung then .infinity (sg w) else .nan (sg w) (rg w - D.infRung) := by
  unfold Format.read
  rw [D_sign, D_binade, D_inf, D_least]
  unfold rg sg mant pl
  simp only
  generalize w % 2 ^ 63 = r
  by_cases c : r < 2 ^ 52
  · have c' : r < 2047 * 2 ^ 52 := by omega
    simp only [c, c', if_true]
  · simp only [c, if_false]

theorem sgn_key {s : Bool} {r : Nat} {b : Int} (_hb : b ≤ pl r) : signed s (mant r) (pl r - b).toNat = (if s then -1 else 1) * (at_ b (mant r) (pl r) : Int) := by
  unfold signed at_
  rw [Nat.shiftLeft_eq]
  cases s <;> simp

theorem compare_mul {a b : Int} {k : Nat} (hk : 0 < k) : compare (a * k) (b * k) = compare a b := by
  have hk' : (0 : Int) < k := by omega
  rcases Int.lt_trichotomy a b with h | h | h
  · rw [Int.compare_eq_lt.2 h, Int.compare_eq_lt.2 (Int.mul_lt_mul_of_pos_right h hk')]
  · subst h; simp
  · rw [Int.compare_eq_gt.2 h, Int.compare_eq_gt.2 (Int.mul_lt_mul_of_pos_right h hk')]

theorem order_keys (x y : Nat) (hx : nanW x = false) (hy : nanW y = false) : D.order x y = some (compare (key x) (key y)) := by
  unfold nanW at hx hy
  have hx' : rg x ≤ D.infRung := by simpa using hx
  have hy' : rg y ≤ D.infRung := by simpa using hy
  unfold Format.order
  rw [read_word x, read_word y]
  have ip : 0 < val D.infRung := by have := val_lt (r := 0) (s := D.infRung) (by rw [D_inf]; omega); omega
  by_cases cx : rg x < D.infRung
  · by_cases cy : rg y < D.infRung
    · simp only [cx, cy, if_true, Datum.order]
      congr 1
      have px := pl_ge (rg x)
      have py := pl_ge (rg y)
      have mb : (-1074 : Int) ≤ min (pl (rg x)) (pl (rg y)) := by omega
      rw [sgn_key (b := min (pl (rg x)) (pl (rg y))) (by omega), sgn_key (b := min (pl (rg x)) (pl (rg y))) (by omega)]
      unfold key
      rw [← at_val (rg x), ← at_val (rg y), at_shift mb (by omega : _ ≤ pl (rg x)), at_shift mb (by omega : _ ≤ pl (rg y))]
      rw [← compare_mul (k := 2 ^ (min (pl (rg x)) (pl (rg y)) - -1074).toNat) (Nat.two_pow_pos _)]
      generalize 2 ^ (min (pl (rg x)) (pl (rg y)) - -1074).toNat = k
      generalize at_ _ (mant (rg x)) (pl (rg x)) = a
      generalize at_ _ (mant (rg y)) (pl (rg y)) = b
      congr 1
      · cases sg x <;> simp [Int.neg_mul]
      · cases sg y <;> simp [Int.neg_mul]
    · have ey : rg y = D.infRung := by omega
      have lx := val_lt cx
      simp only [cx, if_true, ey, Nat.lt_irrefl, if_false, Datum.order]
      congr 1
      unfold key
      rw [ey]
      cases sg y
      · simp only [Bool.false_eq_true, if_false]
        exact (Int.compare_eq_lt.2 (by split <;> omega)).symm
      · simp only [if_true]
        exact (Int.compare_eq_gt.2 (by split <;> omega)).symm
  · have ex : rg x = D.infRung := by omega
    by_cases cy : rg y < D.infRung
    · have ly := val_lt cy
      simp only [cy, if_true, ex, Nat.lt_irrefl, if_false, Datum.order]
      congr 1
      unfold key
      rw [ex]
      cases sg x
      · simp only [Bool.false_eq_true, if_false]
        exact (Int.compare_eq_gt.2 (by split <;> omega)).symm
      · simp only [if_true]
        exact (Int.compare_eq_lt.2 (by split <;> omega)).symm
    · have ey : rg y = D.infRung := by omega
      simp only [ex, ey, Nat.lt_irrefl, if_false, if_true, Datum.order]
      congr 1
      unfold key
      rw [ex, ey]
      generalize val D.infRung = v at *
      cases sg x <;> cases sg y <;> simp only [if_true, if_false, Bool.false_eq_true, Bool.toNat_false, Bool.toNat_true]
      · simp
      · exact (Int.compare_eq_gt.2 (by omega)).symm
      · exact (Int.compare_eq_lt.2 (by omega)).symm
      · simp

theorem order_nan_l (x y : Nat) (hx : nanW x = true) : D.order x y = none := by
  unfold nanW at hx
  have hx' : D.infRung < rg x := by simpa using hx
  unfold Format.order
  rw [read_word x]
  have c1 : ¬ rg x < D.infRung := by omega
  have c2 : ¬ rg x = D.infRung := by omega
  simp only [c1, c2, if_false]
  rfl

theorem order_nan_r (x y : Nat) (hy : nanW y = true) : D.order x y = none := by
  unfold nanW at hy
  have hy' : D.infRung < rg y := by simpa using hy
  unfold Format.order
  rw [read_word y]
  have c1 : ¬ rg y < D.infRung := by omega
  have c2 : ¬ rg y = D.infRung := by omega
  simp only [c1, c2, if_false]
  cases D.read x <;> rfl

end Flo
end Go.Proofs.Ytiapmnedbjmmhaa
