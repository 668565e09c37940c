/- Decoding what was encoded: on lists. -/
import Derived.Test.YtmlckjccgdmknaaOptD
namespace Go.Proofs.Ytmlckjccgdmknaa

theorem decL_flat (l : List (Int × List UInt8)) (t : List UInt8) (h : l.all okO = true) : decL (flat l ++ t) = (decL t).map (l ++ ·) := by
  induction l with
  | nil => rw [flat_nil, List.nil_append]; cases decL t <;> simp
  | cons x r ih =>
    simp only [List.all_cons, Bool.and_eq_true] at h
    obtain ⟨h0, h1, h2⟩ := (okO_iff x).1 h.1
    obtain ⟨code, data⟩ := x
    simp only at h0 h1 h2
    have ec : (UInt8.ofNat code.toNat).toNat = code.toNat := by rw [UInt8.toNat_ofNat', Nat.mod_eq_of_lt (by omega)]
    have en : (UInt8.ofNat data.length).toNat = data.length := by rw [UInt8.toNat_ofNat', Nat.mod_eq_of_lt (by omega)]
    have hne0 : UInt8.ofNat code.toNat ≠ 0 := fun e => by rw [e] at ec; simp at ec; omega
    have hne1 : UInt8.ofNat code.toNat ≠ 255 := fun e => by rw [e] at ec; simp at ec; omega
    have hl : flat ((code, data) :: r) ++ t = UInt8.ofNat code.toNat :: UInt8.ofNat data.length :: (data ++ (flat r ++ t)) := by
      rw [flat_cons]; simp [one]
    have hp : splitL (UInt8.ofNat code.toNat :: UInt8.ofNat data.length :: (data ++ (flat r ++ t))) = some (data, flat r ++ t) := by
      simp only [splitL]
      rw [if_pos (by rw [en]; simp), en]
      simp
    rw [hl, decL_one (skipL_other _ hne0) hne1 hp, ih h.2, ec]
    have ez : ((code.toNat : Nat) : Int) = code := by omega
    rw [ez]
    cases decL t <;> simp

theorem decL_zeros (k : Nat) (t : List UInt8) : decL (List.replicate k 0 ++ t) = decL t := by
  induction k with
  | zero => simp
  | succ k ih => rw [List.replicate_succ, List.cons_append, decL_skip, ih]
theorem skipL_zeros (k : Nat) : skipL (List.replicate k 0) = [] := by
  induction k with
  | zero => rfl
  | succ k ih => rw [List.replicate_succ, skipL_zero, ih]
theorem dec_back {l : List (Int × List UInt8)} (h : l.all okO = true) (j k : Nat) : decL (List.replicate j 0 ++ (flat l ++ [255]) ++ List.replicate k 0) = some l := by
  rw [List.append_assoc, List.append_assoc, decL_zeros, decL_flat l _ h, List.singleton_append, decL_end (skipL_other _ (by decide)), skipL_zeros]
  simp
theorem dec_open {l : List (Int × List UInt8)} (h : l.all okO = true) : decL (flat l) = none := by
  have := decL_flat l [] h
  rw [List.append_nil, decL_nil skipL_nil] at this
  exact this
end Go.Proofs.Ytmlckjccgdmknaa
