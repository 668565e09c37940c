/- What is told of a packet into whose options an address, a time, a kind and a name were put. -/
import Derived.Test.YtmlckjccgdmknaaPktK
import Derived.Test.YtmlckjccgdmknaaNumL
import Derived.Test.YtmlckjccgdmknaaFindL
namespace Go.Proofs.Ytmlckjccgdmknaa

theorem putR_length (c : Int) (d : List UInt8) (l : List (Int × List UInt8)) : (putR c d l).length ≤ l.length + 1 := by
  induction l with
  | nil => simp [putR]
  | cons x r ih =>
    by_cases h : x.1 = c
    · rw [putR, if_pos h]
      have := List.length_filter_le (fun y : Int × List UInt8 => y.1 != c) r
      simp only [List.length_cons]
      omega
    · rw [putR, if_neg h]
      simp only [List.length_cons]
      omega
theorem putL_length (l : List (Int × List UInt8)) (c : Int) (d : List UInt8) : (putL l c d).length ≤ l.length + 1 := by
  rw [putL_eq]; exact putR_length c d l

theorem byt_fixed (x : Int) (m : Nat) (hs : sizedB (m : Int) = true) : ((bytR x (m : Int)).2 != 0) = true ∨ ∃ n : Nat, x = (n : Int) ∧ n < 256 ^ m ∧ bytR x (m : Int) = (beL n m, 0) := by
  by_cases hn : x < 0
  · left; rw [bytR_neg hn]; rfl
  · obtain ⟨q, rfl⟩ : ∃ q : Nat, x = q := ⟨x.toNat, by omega⟩
    by_cases hb : q < 256 ^ m
    · exact .inr ⟨q, rfl, hb, bytR_ok hs hb⟩
    · left; rw [bytR_big (Nat.le_of_not_lt hb)]; rfl

/-- The options, with all four put. -/
def putAll (l : List (Int × List UInt8)) (a n k name : List UInt8) : List (Int × List UInt8) := putL (putL (putL (putL l 50 a) 51 n) 53 k) 61 name

theorem find_all (l : List (Int × List UInt8)) (a n k name : List UInt8) :
    (findL (putAll l a n k name) 50).1 = a ∧ (findL (putAll l a n k name) 51).1 = n ∧ (findL (putAll l a n k name) 53).1 = k ∧ (findL (putAll l a n k name) 61).1 = name := by
  unfold putAll
  refine ⟨?_, ?_, ?_, ?_⟩
  · rw [find_put_ne _ _ _ _ (by decide), find_put_ne _ _ _ _ (by decide), find_put_ne _ _ _ _ (by decide), find_put]
  · rw [find_put_ne _ _ _ _ (by decide), find_put_ne _ _ _ _ (by decide), find_put]
  · rw [find_put_ne _ _ _ _ (by decide), find_put]
  · rw [find_put]

theorem told_all (p : PktV) (l : List (Int × List UInt8)) (n0 n1 n2 : Nat) (name : List UInt8) (h0 : n0 < 256 ^ 4) (h1 : n1 < 256 ^ 4) (h2 : n2 < 256 ^ 1) (hn : name.length ≤ 32)
    (hp : absL p.L = putAll l (beL n0 4) (beL n1 4) (beL n2 1) name) :
    askA p.abs = n0 ∧ longA p.abs = n1 ∧ kindA p.abs = n2 ∧ clientA p.abs = if name.length = 0 then p.hw else name := by
  obtain ⟨f0, f1, f2, f3⟩ := find_all l (beL n0 4) (beL n1 4) (beL n2 1) name
  rw [← hp] at f0 f1 f2 f3
  have g0 : fd p.abs 50 = beL n0 4 := f0
  have g1 : fd p.abs 51 = beL n1 4 := f1
  have g2 : fd p.abs 53 = beL n2 1 := f2
  have g3 : fd p.abs 61 = name := f3
  refine ⟨?_, ?_, ?_, ?_⟩
  · unfold askA; rw [g0, if_pos (beL_length _ _), numL_beL, Nat.mod_eq_of_lt h0]
  · unfold longA foundN; rw [g1, if_pos (beL_length _ _), numL_beL, Nat.mod_eq_of_lt h1]
  · unfold kindA foundN; rw [g2, if_pos (beL_length _ _), numL_beL, Nat.mod_eq_of_lt h2]
  · unfold clientA
    rw [g3]
    by_cases h : name.length = 0
    · rw [if_pos (by omega), if_pos h]; rfl
    · rw [if_neg (by omega), if_neg h]

theorem all_data (l : List (Int × List UInt8)) (n0 n1 n2 : Nat) (name : List UInt8) (hn : name.length ≤ 32) (h : ∀ x ∈ l, x.2.length ≤ 1000) : ∀ x ∈ putAll l (beL n0 4) (beL n1 4) (beL n2 1) name, x.2.length ≤ 1000 := by
  unfold putAll
  refine data_put _ _ _ _ (by omega) (data_put _ _ _ _ ?_ (data_put _ _ _ _ ?_ (data_put _ _ _ _ ?_ h)))
  all_goals rw [beL_length]; omega
end Go.Proofs.Ytmlckjccgdmknaa
