/- Plain mathematics of decoding options. -/
import Derived.Test.YtmlckjccgdmknaaRefS
namespace Go.Proofs.Ytmlckjccgdmknaa

theorem splitL_lt {l d b : List UInt8} (h : splitL l = some (d, b)) : b.length < l.length := by
  match l, h with
  | x :: y :: r, h =>
    simp only [splitL] at h
    split at h
    · simp only [Option.some.injEq, Prod.mk.injEq] at h
      obtain ⟨_, rfl⟩ := h
      simp
      omega
    · cases h

/-- The options that bytes stand for. -/
def decL (l : List UInt8) : Option (List (Int × List UInt8)) :=
  match _hs : skipL l with
  | [] => none
  | x :: r =>
    if x = 255 then (if (skipL r).isEmpty then some [] else none)
    else
      match _hp : splitL (x :: r) with
      | none => none
      | some (d, b) => (decL b).map (((x.toNat : Int), d) :: ·)
termination_by l.length
decreasing_by
  have h1 := splitL_lt _hp
  have h2 := skipL_length l
  rw [_hs] at h2
  omega

theorem decL_nil {l : List UInt8} (h : skipL l = []) : decL l = none := by
  rw [decL]; split
  · rfl
  · rename_i x r hs; rw [h] at hs; cases hs
theorem decL_end {l r : List UInt8} (h : skipL l = 255 :: r) : decL l = if (skipL r).isEmpty then some [] else none := by
  rw [decL]; split
  · rename_i hs; rw [h] at hs; cases hs
  · rename_i x r' hs
    rw [h] at hs
    obtain ⟨rfl, rfl⟩ := List.cons.inj hs
    rw [if_pos rfl]
theorem decL_cut {l r : List UInt8} {x : UInt8} (h : skipL l = x :: r) (hx : x ≠ 255) (hp : splitL (x :: r) = none) : decL l = none := by
  rw [decL]; split
  · rfl
  · rename_i x' r' hs
    rw [h] at hs
    obtain ⟨rfl, rfl⟩ := List.cons.inj hs
    rw [if_neg hx]
    split
    · rfl
    · rename_i d b hp'; rw [hp] at hp'; cases hp'
theorem decL_one {l r d b : List UInt8} {x : UInt8} (h : skipL l = x :: r) (hx : x ≠ 255) (hp : splitL (x :: r) = some (d, b)) : decL l = (decL b).map (((x.toNat : Int), d) :: ·) := by
  rw [decL]; split
  · rename_i hs; rw [h] at hs; cases hs
  · rename_i x' r' hs
    rw [h] at hs
    obtain ⟨rfl, rfl⟩ := List.cons.inj hs
    rw [if_neg hx]
    split
    · rename_i hp'; rw [hp] at hp'; cases hp'
    · rename_i d' b' hp'
      rw [hp] at hp'
      simp only [Option.some.injEq, Prod.mk.injEq] at hp'
      obtain ⟨rfl, rfl⟩ := hp'
      rfl
theorem decL_skip (r : List UInt8) : decL (0 :: r) = decL r := by
  have e := skipL_zero r
  match hs : skipL r with
  | [] => rw [decL_nil hs, decL_nil (e.trans hs)]
  | x :: t =>
    by_cases hx : x = 255
    · subst hx; rw [decL_end hs, decL_end (e.trans hs)]
    · match hp : splitL (x :: t) with
      | none => rw [decL_cut hs hx hp, decL_cut (e.trans hs) hx hp]
      | some (d, b) => rw [decL_one hs hx hp, decL_one (e.trans hs) hx hp]

/-- What is answered: options, and the error's number. -/
def decR (b : List UInt8) : List (Int × List UInt8) × Int :=
  if 1024 < b.length then ([], 2) else match decL b with
    | some l => (l, 0)
    | none => ([], 2)
theorem decR_big {b : List UInt8} (h : 1024 < b.length) : decR b = ([], 2) := by simp [decR, h]
theorem decR_none {b : List UInt8} (h : decL b = none) : decR b = ([], 2) := by
  unfold decR; split
  · rfl
  · rw [h]
theorem decR_some {b : List UInt8} {l : List (Int × List UInt8)} (hb : ¬ 1024 < b.length) (h : decL b = some l) : decR b = (l, 0) := by
  unfold decR; rw [if_neg hb, h]

end Go.Proofs.Ytmlckjccgdmknaa
