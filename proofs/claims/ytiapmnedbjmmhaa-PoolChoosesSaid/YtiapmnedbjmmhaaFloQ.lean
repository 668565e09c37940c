/- Plain mathematics of floats: comparisons by key; quotients, sums and differences that are numbers. -/
import Derived.Test.YtiapmnedbjmmhaaFloP
namespace Go.Proofs.Ytiapmnedbjmmhaa
open Ieee
namespace Flo

/-- The comparisons, as the walk leaves them. -/
theorem ord_lt (x y : Nat) : (D.order x y == some .lt) = (!nanW x && !nanW y && decide (key x < key y)) := by
  cases hx : nanW x
  · cases hy : nanW y
    · rw [order_keys x y hx hy]
      rcases Int.lt_trichotomy (key x) (key y) with h | h | h
      · rw [Int.compare_eq_lt.2 h]; simp [h]
      · rw [Int.compare_eq_eq.2 h]; simp [h]
      · rw [Int.compare_eq_gt.2 h]
        have : ¬ key x < key y := by omega
        simp [this]
    · rw [order_nan_r x y hy]; rfl
  · rw [order_nan_l x y hx]; rfl

theorem ord_gt (x y : Nat) : (D.order x y == some .gt) = (!nanW x && !nanW y && decide (key y < key x)) := by
  cases hx : nanW x
  · cases hy : nanW y
    · rw [order_keys x y hx hy]
      rcases Int.lt_trichotomy (key x) (key y) with h | h | h
      · rw [Int.compare_eq_lt.2 h]
        have : ¬ key y < key x := by omega
        simp [this]
      · rw [Int.compare_eq_eq.2 h]; simp [h]
      · rw [Int.compare_eq_gt.2 h]; simp [h]
    · rw [order_nan_r x y hy]; rfl
  · rw [order_nan_l x y hx]; rfl

theorem ord_eq (x y : Nat) : (D.order x y == some .eq) = (!nanW x && !nanW y && decide (key x = key y)) := by
  cases hx : nanW x
  · cases hy : nanW y
    · rw [order_keys x y hx hy]
      rcases Int.lt_trichotomy (key x) (key y) with h | h | h
      · rw [Int.compare_eq_lt.2 h]
        have : ¬ key x = key y := by omega
        simp [this]
      · rw [Int.compare_eq_eq.2 h]; simp [h]
      · rw [Int.compare_eq_gt.2 h]
        have : ¬ key x = key y := by omega
        simp [this]
    · rw [order_nan_r x y hy]; rfl
  · rw [order_nan_l x y hx]; rfl

theorem ord_le (x y : Nat) : (D.order x y == some .lt || D.order x y == some .eq) = (!nanW x && !nanW y && decide (key x ≤ key y)) := by
  rw [ord_lt, ord_eq]
  cases nanW x <;> cases nanW y <;> simp
  rw [← Bool.decide_or]
  congr 1
  exact propext ⟨fun h => by omega, fun h => by omega⟩

theorem ord_ge (x y : Nat) : (D.order x y == some .gt || D.order x y == some .eq) = (!nanW x && !nanW y && decide (key y ≤ key x)) := by
  rw [ord_gt, ord_eq]
  cases nanW x <;> cases nanW y <;> simp
  rw [← Bool.decide_or]
  congr 1
  exact propext ⟨fun h => by omega, fun h => by omega⟩

/-- 'x != x' tells the words that are no number. -/
theorem ord_self (x : Nat) : (D.order x x != some .eq) = nanW x := by
  rw [bne, ord_eq]
  cases nanW x <;> simp

theorem rg_word (neg : Bool) {r : Nat} (h : r ≤ D.infRung) : rg (D.word neg r) = r ∧ sg (D.word neg r) = neg := by
  rw [D_inf] at h
  unfold rg sg Format.word
  rw [D_sign]
  cases neg
  · refine ⟨?_, ?_⟩
    · simp only [Bool.false_eq_true, if_false]; omega
    · simp only [Bool.false_eq_true, if_false]
      have : r / 2 ^ 63 % 2 = 0 := by omega
      rw [this]; rfl
  · refine ⟨?_, ?_⟩
    · simp only [if_true]; omega
    · simp only [if_true]
      have : (2 ^ 63 + r) / 2 ^ 63 % 2 = 1 := by omega
      rw [this]; rfl

theorem rung_le (m : Nat) (p : Int) : rung D m p ≤ D.infRung := by
  unfold rung
  split
  · omega
  · exact Nat.min_le_right _ _

/-- What is written of a number or an infinity is a number again. -/
theorem write_fit (d : Datum) (h : d.isNaN = false) : nanW (D.write d) = false := by
  cases d with
  | number neg mag place =>
    show nanW (D.nearest neg mag place) = false
    rw [nearest_rung]
    unfold nanW
    rw [(rg_word neg (rung_le mag place)).1]
    have := rung_le mag place
    exact decide_eq_false (by omega)
  | infinity neg =>
    show nanW (D.word neg D.infRung) = false
    unfold nanW
    rw [(rg_word neg (Nat.le_refl _)).1]
    exact decide_eq_false (by omega)
  | nan neg fraction => cases h

theorem nan_read (w : Nat) : (D.read w).isNaN = nanW w := by
  rw [read_word]
  unfold nanW
  by_cases c : rg w < D.infRung
  · rw [if_pos c]
    have : ¬ D.infRung < rg w := by omega
    rw [decide_eq_false this]; rfl
  · rw [if_neg c]
    by_cases e : rg w = D.infRung
    · rw [if_pos e]
      have : ¬ D.infRung < rg w := by omega
      rw [decide_eq_false this]; rfl
    · rw [if_neg e]
      have : D.infRung < rg w := by omega
      rw [decide_eq_true this]; rfl

/-- A sum with a finite one is a number where the other is. -/
theorem sum_fin {d e : Datum} {s : Bool} {m : Nat} {p : Int} (hd : d = .number s m p) (he : e.isNaN = false) : ∃ t, d.sum e = some t ∧ t.isNaN = false := by
  subst hd
  cases e with
  | number => exact ⟨_, rfl, rfl⟩
  | infinity => exact ⟨_, rfl, rfl⟩
  | nan => cases he

theorem opp_nan (d : Datum) : d.opposite.isNaN = d.isNaN := by cases d <;> rfl

theorem sub_fin {x y : Nat} (hx : rg x < D.infRung) (hy : nanW y = false) : ∃ r, D.sub x y = some r ∧ nanW r = false := by
  have rx := read_word x
  rw [if_pos hx] at rx
  obtain ⟨t, h1, h2⟩ := sum_fin rx (e := (D.read y).opposite) (by rw [opp_nan, nan_read, hy])
  exact ⟨D.write t, by unfold Format.sub; rw [h1]; rfl, write_fit t h2⟩

theorem add_zero_fit {x : Nat} (hx : nanW x = false) : ∃ r, D.add x 0 = some r ∧ nanW r = false := by
  have r0 : D.read 0 = .number false (mant 0) (pl 0) := read_pos (by rw [D_inf]; omega)
  have hn : (D.read x).isNaN = false := by rw [nan_read, hx]
  unfold Format.add
  rw [r0]
  revert hn
  cases D.read x with
  | number => intro _; exact ⟨_, rfl, write_fit _ rfl⟩
  | infinity => intro _; exact ⟨_, rfl, write_fit _ rfl⟩
  | nan => intro h; cases h

/-- A quotient of what is no greater is no more than one. -/
theorem quot_le {m n more E : Nat} (hn : n ≠ 0) (h : m <<< more ≤ n * 2 ^ E) :
    2 * ((m <<< more) / n) + ((m <<< more) % n != 0).toNat ≤ 2 ^ (E + 1) := by
  generalize m <<< more = d at *
  have a := Nat.div_add_mod d n
  have q : d / n ≤ 2 ^ E := by
    have := Nat.div_le_div_right (c := n) h
    rwa [Nat.mul_comm, Nat.mul_div_cancel _ (Nat.pos_of_ne_zero hn)] at this
  have b1 : ∀ b : Bool, b.toNat ≤ 1 := by decide
  have b2 := b1 (d % n != 0)
  rw [Nat.pow_succ]
  by_cases e : d / n = 2 ^ E
  · have z : d % n = 0 := by rw [e] at a; omega
    have : (d % n != 0) = false := by rw [z]; rfl
    rw [this]
    simp only [Bool.toNat_false]
    omega
  · omega

theorem div_part {k l : Nat} (hk : k ≤ l) (h0 : 1 ≤ l) (h : l < 2 ^ 53) : ∃ q, D.div (whole k) (whole l) = some q ∧ sg q = false ∧ val (rg q) ≤ U := by
  have hl := whole_val h0 h
  have rk : whole k < D.infRung ∧ val (whole k) = k * U := by
    by_cases c : k = 0
    · subst c
      have : whole 0 = 0 := by unfold whole rung; rw [if_pos rfl]
      rw [this, val_zero]
      exact ⟨by rw [D_inf]; omega, by omega⟩
    · exact ⟨whole_lt (by omega) (by omega), whole_val (by omega) (by omega)⟩
  have le : Le (mant (whole k)) (pl (whole k)) (mant (whole l)) (pl (whole l)) := by
    rw [le_vals, rk.2, hl]; exact Nat.mul_le_mul_right _ hk
  have nz : mant (whole l) ≠ 0 := by
    intro e
    have := at_val (whole l)
    rw [e, hl] at this
    unfold at_ at this
    rw [Nat.zero_mul] at this
    have := Nat.mul_pos h0 U_pos
    omega
  unfold Format.div
  rw [read_pos rk.1, read_pos (whole_lt h0 h)]
  generalize mant (whole k) = m at *
  generalize mant (whole l) = n at *
  generalize pl (whole k) = i at *
  generalize pl (whole l) = j at *
  simp only [Datum.quotient, nz, if_false, Option.map_some, D_fb]
  generalize hmore : 52 + 2 + n.log2 - m.log2 = more
  have key : rung D (2 * ((m <<< more) / n) + ((m <<< more) % n != 0).toNat) (i - j - more - 1) ≤ whole 1 := by
    refine rung_mono D ?_
    by_cases mz : m = 0
    · subst mz
      unfold Le at_
      simp
    have lg := log_le mz le
    have eE : 0 ≤ (more : Int) + j - i := by omega
    have hd : m <<< more ≤ n * 2 ^ ((more : Int) + j - i).toNat := by
      rw [Nat.shiftLeft_eq]
      have := (le_iff (b := min i j) (by omega) (by omega)).1 le
      unfold at_ at this
      refine Nat.le_of_mul_le_mul_right ?_ (Nat.two_pow_pos (i - min i j).toNat)
      rw [Nat.mul_assoc, Nat.mul_comm (2 ^ more), ← Nat.mul_assoc, Nat.mul_assoc n, ← Nat.pow_add]
      have t := Nat.mul_le_mul_right (2 ^ more) this
      rw [Nat.mul_assoc n, ← Nat.pow_add] at t
      refine Nat.le_trans t (Nat.mul_le_mul_left n (Nat.pow_le_pow_right (by omega) (by omega)))
    have ql := quot_le nz hd
    rw [le_iff (b := i - j - more - 1) (by omega) (by omega)]
    unfold at_
    have z : ((i - j - more - 1) - (i - j - more - 1)).toNat = 0 := by omega
    rw [z, Nat.pow_zero, Nat.mul_one, Nat.one_mul]
    refine Nat.le_trans ql (Nat.pow_le_pow_right (by omega) (by omega))
  refine ⟨_, rfl, ?_⟩
  simp only [Format.write, nearest_rung, Bool.xor_false]
  have f := rg_word false (rung_le (2 * ((m <<< more) / n) + ((m <<< more) % n != 0).toNat) (i - j - more - 1))
  refine ⟨f.2, ?_⟩
  rw [f.1]
  have := val_mono key
  rw [whole_val (by omega) (by omega), Nat.one_mul] at this
  exact this

end Flo
end Go.Proofs.Ytiapmnedbjmmhaa
