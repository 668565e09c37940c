/- Plain mathematics of options: lists of codes with data, and their bytes. -/
import Derived.Test.YtmlckjccgdmknaaOptM
namespace Go.Proofs.Ytmlckjccgdmknaa

/-- May an option be? -/
def okO (x : Int × List UInt8) : Bool := decide (0 < x.1) && decide (x.1 < 255) && decide (x.2.length ≤ 255)
theorem okO_iff (x : Int × List UInt8) : okO x = true ↔ 0 < x.1 ∧ x.1 < 255 ∧ x.2.length ≤ 255 := by simp [okO, and_assoc]
/-- One option's bytes. -/
def one (x : Int × List UInt8) : List UInt8 := UInt8.ofNat x.1.toNat :: UInt8.ofNat x.2.length :: x.2
def flat (l : List (Int × List UInt8)) : List UInt8 := l.flatMap one
theorem one_length (x : Int × List UInt8) : (one x).length = 2 + x.2.length := by simp [one]; omega
theorem flat_snoc (l : List (Int × List UInt8)) (x : Int × List UInt8) : flat (l ++ [x]) = flat l ++ one x := by simp [flat]
theorem flat_cons (l : List (Int × List UInt8)) (x : Int × List UInt8) : flat (x :: l) = one x ++ flat l := by simp [flat]
theorem flat_nil : flat [] = [] := rfl

/-- The options' bytes, and the error's number. -/
def encL (l : List (Int × List UInt8)) : List UInt8 × Int :=
  if l.all okO then (if (flat l).length + 1 ≤ 1024 then (flat l ++ [255], 0) else ([], 3)) else ([], 1)

theorem encL_bad {l : List (Int × List UInt8)} {x : Int × List UInt8} (hx : x ∈ l) (h : okO x = false) : encL l = ([], 1) := by
  unfold encL
  rw [if_neg]
  intro ha
  rw [List.all_eq_true.1 ha x hx] at h
  cases h
theorem encL_full {l : List (Int × List UInt8)} (h : l.all okO = true) (hf : 1024 < (flat l).length + 1) : encL l = ([], 3) := by
  unfold encL
  rw [if_pos h, if_neg (by omega)]
theorem encL_ok {l : List (Int × List UInt8)} (h : l.all okO = true) (hf : (flat l).length + 1 ≤ 1024) : encL l = (flat l ++ [255], 0) := by
  unfold encL
  rw [if_pos h, if_pos hf]

theorem take_snoc_of {α : Type} (l : List α) (k : Nat) (x : α) (h : l[k]? = some x) : l.take (k + 1) = l.take k ++ [x] := by
  rw [List.take_add_one, h]; rfl

/-- The options of a list as it lies. -/
def absL (l : List OptV) : List (Int × List UInt8) := l.map OptV.abs
theorem absL_take (l : List OptV) (k : Nat) : absL (l.take k) = (absL l).take k := by simp [absL]
theorem absL_at {l : List OptV} {k : Nat} {x : OptV} (h : l[k]? = some x) : (absL l)[k]? = some x.abs := by simp [absL, h]
theorem absL_length (l : List OptV) : (absL l).length = l.length := by simp [absL]
theorem flat_take_le (l : List (Int × List UInt8)) (k : Nat) : (flat (l.take k)).length ≤ (flat l).length := by
  have h : flat l = flat (l.take k) ++ flat (l.drop k) := by
    unfold flat
    rw [← List.flatMap_append, List.take_append_drop]
  rw [h, List.length_append]
  omega
theorem flat_len_le (l : List (Int × List UInt8)) (h : l.all okO = true) : (flat l).length ≤ l.length * 257 := by
  induction l with
  | nil => simp [flat]
  | cons x r ih =>
    simp only [List.all_cons, Bool.and_eq_true] at h
    have h1 := ih h.2
    have h2 := ((okO_iff x).1 h.1).2.2
    rw [flat_cons, List.length_append, one_length, List.length_cons]
    omega
theorem all_take_succ {l : List (Int × List UInt8)} {k : Nat} {x : Int × List UInt8} (hx : l[k]? = some x) (h : (l.take k).all okO = true) (ho : okO x = true) : (l.take (k + 1)).all okO = true := by
  rw [take_snoc_of l k x hx]; simp [h, ho]

end Go.Proofs.Ytmlckjccgdmknaa
