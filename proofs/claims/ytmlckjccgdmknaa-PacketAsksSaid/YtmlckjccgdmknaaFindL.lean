/- What is found of what was put: on lists. -/
import Derived.Test.YtmlckjccgdmknaaRefP2
namespace Go.Proofs.Ytmlckjccgdmknaa

theorem putStep_true (c : Int) (d : List UInt8) (l a : List (Int × List UInt8)) :
    l.foldl (putStep c d) (a, true) = (a ++ l.filter (fun x => x.1 != c), true) := by
  induction l generalizing a with
  | nil => simp
  | cons x r ih =>
    rw [List.foldl_cons]
    by_cases h : x.1 = c
    · have : putStep c d (a, true) x = (a, true) := by simp [putStep, h]
      rw [this, ih]; simp [h]
    · have : putStep c d (a, true) x = (a ++ [x], true) := by simp [putStep, h]
      rw [this, ih]; simp [h]

/-- Putting, by recursion. -/
def putR (c : Int) (d : List UInt8) : List (Int × List UInt8) → List (Int × List UInt8)
  | [] => [(c, d)]
  | x :: r => if x.1 = c then (c, d) :: r.filter (fun y => y.1 != c) else x :: putR c d r

def closeP (c : Int) (d : List UInt8) (s : List (Int × List UInt8) × Bool) : List (Int × List UInt8) := if s.2 then s.1 else s.1 ++ [(c, d)]

theorem putStep_false (c : Int) (d : List UInt8) (l a : List (Int × List UInt8)) :
    closeP c d (l.foldl (putStep c d) (a, false)) = a ++ putR c d l := by
  induction l generalizing a with
  | nil => simp [closeP, putR]
  | cons x r ih =>
    rw [List.foldl_cons]
    by_cases h : x.1 = c
    · have : putStep c d (a, false) x = (a ++ [(c, d)], true) := by simp [putStep, h]
      rw [this, putStep_true]; simp [closeP, putR, h]
    · have : putStep c d (a, false) x = (a ++ [x], false) := by simp [putStep, h]
      rw [this, ih]; simp [putR, h]

theorem putL_eq (l : List (Int × List UInt8)) (c : Int) (d : List UInt8) : putL l c d = putR c d l := by
  have h := putStep_false c d l []
  rw [List.nil_append] at h
  exact h

theorem find_filter (l : List (Int × List UInt8)) (c c' : Int) (h : c' ≠ c) : findL (l.filter (fun y => y.1 != c)) c' = findL l c' := by
  induction l with
  | nil => rfl
  | cons x r ih =>
    by_cases hx : x.1 = c
    · rw [List.filter_cons_of_neg (by simp [hx]), ih, findL, if_neg (by rw [hx]; exact fun e => h e.symm)]
    · rw [List.filter_cons_of_pos (by simp [hx]), findL, findL, ih]

theorem find_put (l : List (Int × List UInt8)) (c : Int) (d : List UInt8) : findL (putL l c d) c = (d, true) := by
  rw [putL_eq]
  induction l with
  | nil => simp [putR, findL]
  | cons x r ih =>
    by_cases hx : x.1 = c
    · rw [putR, if_pos hx, findL, if_pos rfl]
    · rw [putR, if_neg hx, findL, if_neg hx, ih]

theorem find_put_ne (l : List (Int × List UInt8)) (c c' : Int) (d : List UInt8) (h : c' ≠ c) : findL (putL l c d) c' = findL l c' := by
  rw [putL_eq]
  induction l with
  | nil => simp [putR, findL]; exact fun e => h e.symm
  | cons x r ih =>
    by_cases hx : x.1 = c
    · rw [putR, if_pos hx, findL, if_neg (fun e => h e.symm), find_filter _ _ _ h, findL, if_neg (by rw [hx]; exact fun e => h e.symm)]
    · rw [putR, if_neg hx, findL, findL, ih]

/-- The others. -/
def othersL (c : Int) (l : List (Int × List UInt8)) : List (Int × List UInt8) := l.filter (fun y => y.1 != c)
/-- How many have the code. -/
def countC (c : Int) (l : List (Int × List UInt8)) : Nat := l.countP (fun y => y.1 == c)

theorem others_put (l : List (Int × List UInt8)) (c : Int) (d : List UInt8) : othersL c (putL l c d) = othersL c l := by
  rw [putL_eq]; unfold othersL
  induction l with
  | nil => simp [putR]
  | cons x r ih =>
    by_cases hx : x.1 = c
    · rw [putR, if_pos hx]; simp [hx]
    · rw [putR, if_neg hx]; simp [hx, ih]

theorem count_put (l : List (Int × List UInt8)) (c : Int) (d : List UInt8) : countC c (putL l c d) = 1 := by
  rw [putL_eq]; unfold countC
  induction l with
  | nil => simp [putR]
  | cons x r ih =>
    by_cases hx : x.1 = c
    · rw [putR, if_pos hx]; simp
    · rw [putR, if_neg hx]; simp [hx, ih]

theorem data_put (l : List (Int × List UInt8)) (c : Int) (d : List UInt8) (n : Nat) (hd : d.length ≤ n) (h : ∀ x ∈ l, x.2.length ≤ n) : ∀ x ∈ putL l c d, x.2.length ≤ n := by
  rw [putL_eq]
  induction l with
  | nil => intro x hx; simp [putR] at hx; subst hx; exact hd
  | cons y r ih =>
    intro x hx
    by_cases hy : y.1 = c
    · rw [putR, if_pos hy] at hx
      rcases List.mem_cons.1 hx with rfl | hx
      · exact hd
      · exact h x (by simp [(List.mem_filter.1 hx).1])
    · rw [putR, if_neg hy] at hx
      rcases List.mem_cons.1 hx with rfl | hx
      · exact h x (by simp)
      · exact ih (fun z hz => h z (by simp [hz])) x hx

theorem others_snoc (c : Int) (l : List (Int × List UInt8)) (x : Int × List UInt8) : othersL c (l ++ [x]) = othersL c l ++ (if x.1 = c then [] else [x]) := by
  unfold othersL; rw [List.filter_append]
  by_cases h : x.1 = c <;> simp [h]
theorem count_snoc (c : Int) (l : List (Int × List UInt8)) (x : Int × List UInt8) : countC c (l ++ [x]) = countC c l + (if x.1 = c then 1 else 0) := by
  unfold countC; rw [List.countP_append]
  by_cases h : x.1 = c <;> simp [h]
end Go.Proofs.Ytmlckjccgdmknaa
