/- Numbers and their bytes. -/
import Derived.Test.YtmlckjccgdmknaaOptN
namespace Go.Proofs.Ytmlckjccgdmknaa

theorem beL_succ (n m : Nat) : beL n (m + 1) = beL (n / 256) m ++ [UInt8.ofNat n] := by
  unfold beL
  rw [List.range_succ, List.map_append]
  congr 1
  · apply List.map_congr_left
    intro i hi
    have hi' := List.mem_range.1 hi
    rw [Nat.div_div_eq_div_mul, ← Nat.pow_succ', show (m - 1 - i).succ = m + 1 - 1 - i by omega]
  · simp
theorem numL_beL (n m : Nat) : numL (beL n m) = n % 256 ^ m := by
  induction m generalizing n with
  | zero => simp [beL, numL, Nat.mod_one]
  | succ m ih =>
    rw [beL_succ, numL_snoc, ih, UInt8.toNat_ofNat', show (256 : Nat) ^ (m + 1) = 256 * 256 ^ m from Nat.pow_succ', Nat.mod_mul]
    omega
theorem beL_numL (l : List UInt8) : beL (numL l) l.length = l := by
  rw [← l.reverse_reverse]
  generalize l.reverse = r
  induction r with
  | nil => rfl
  | cons x r ih =>
    rw [List.reverse_cons, numL_snoc, List.length_append, List.length_singleton, beL_succ]
    have hx := x.toNat_lt
    rw [show (numL r.reverse * 256 + x.toNat) / 256 = numL r.reverse by omega, ih]
    congr 2
    apply UInt8.toNat_inj.1
    rw [UInt8.toNat_ofNat']
    omega
end Go.Proofs.Ytmlckjccgdmknaa
