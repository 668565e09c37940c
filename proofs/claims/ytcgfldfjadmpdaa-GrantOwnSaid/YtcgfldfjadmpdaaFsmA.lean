/- fsm: isState, has, Serves, Restart; the document's torn, calm, Serves, Restart. -/
import Derived.Test.YtcgfldfjadmpdaaProg
import Derived.Test.YtcgfldfjadmpdaaFsmP
import Derived.WalkKit
import Derived.OwnWalk
import Derived.Lib.Hide
namespace Go.Proofs.Ytcgfldfjadmpdaa
open Go.RowKit

def isStB (s : Int) : Bool := decide (0 ≤ s) && decide (s ≤ 8)
theorem isState_any (s : Int) (W : World) : Calls Try.prog 34 #[.int .i64 s] W fun e w' => e = .returned (.bool (isStB s)) ∧ W = w' := by
  unfold isStB
  cases h0 : decide (0 ≤ s) <;> cases h8 : decide (s ≤ 8)
  all_goals
    go_enter Try.func34, Try.ntmps34
    go_wp2
    go_ret
    exact ⟨rfl, rfl⟩

/-- Does a set of states, told as bits, hold one? -/
def bitB (k s : Int) : Bool := bits .and .i64 (k / 2 ^ min s.toNat 64) 1 == 1
def hasV (k s : Int) : Bool := k == -1 || (isStB s && bitB k s)
theorem has_any (k s : Int) (W : World) : Calls Try.prog 29 #[.int .i64 k, .int .i64 s] W fun e w' => e = .returned (.bool (hasV k s)) ∧ W = w' := by
  have HA := Lib.hid (fun V => isState_any s V)
  unfold hasV
  cases hk : k == -1
  · cases hs : isStB s
    · rw [hs] at HA
      clear hs
      go_enter Try.func29, Try.ntmps29
      go_wp2_with fail
      refine (HA.out _).mono ?_
      rintro e w' ⟨rfl, rfl⟩
      go_wp2
      go_ret
      exact ⟨rfl, rfl⟩
    · have h0 : 0 ≤ s := by unfold isStB at hs; simp at hs; omega
      rw [hs] at HA
      clear hs
      go_enter Try.func29, Try.ntmps29
      go_wp2_with fail
      refine (HA.out _).mono ?_
      rintro e w' ⟨rfl, rfl⟩
      go_wp2
      go_ret
      exact ⟨rfl, rfl⟩
  · go_enter Try.func29, Try.ntmps29
    go_wp2
    go_ret
    exact ⟨rfl, rfl⟩

theorem st_cases {s : Int} (h : isStB s = true) : s = 0 ∨ s = 1 ∨ s = 2 ∨ s = 3 ∨ s = 4 ∨ s = 5 ∨ s = 6 ∨ s = 7 ∨ s = 8 := by
  unfold isStB at h
  simp at h
  omega
/-- What a set holds is told by its nine bits. -/
theorem has_of {k : Int} {p : Int → Bool} (hk : k ≠ -1) (hp : ∀ s, isStB s = false → p s = false) (h : (List.range 9).all (fun (i : Nat) => bitB k (i : Int) == p (i : Int)) = true) (s : Int) : hasV k s = p s := by
  unfold hasV
  rw [show (k == -1) = false by simpa using hk, Bool.false_or]
  cases hs : isStB s
  · rw [hp s hs]; rfl
  · have h' := fun (i : Nat) (hi : i < 9) => eq_of_beq (List.all_eq_true.1 h i (List.mem_range.2 hi))
    rw [Bool.true_and]
    rcases st_cases hs with rfl | rfl | rfl | rfl | rfl | rfl | rfl | rfl | rfl
    · exact h' 0 (by omega)
    · exact h' 1 (by omega)
    · exact h' 2 (by omega)
    · exact h' 3 (by omega)
    · exact h' 4 (by omega)
    · exact h' 5 (by omega)
    · exact h' 6 (by omega)
    · exact h' 7 (by omega)
    · exact h' 8 (by omega)
theorem serves_has (s : Int) : hasV 14 s = decide (ServesI s) := by
  refine has_of (p := fun s => decide (ServesI s)) (by decide) ?_ (by decide +kernel) s
  intro s hs
  unfold isStB at hs
  simp at hs
  refine decide_eq_false ?_
  unfold ServesI
  omega

theorem serves_any (s : Int) (W : World) : Calls Try.prog 22 #[.int .i64 s] W fun e w' => e = .returned (.bool (decide (ServesI s))) ∧ W = w' := by
  have HA := Lib.hid (fun V => has_any 14 s V)
  rw [serves_has] at HA
  generalize decide (ServesI s) = b at *
  go_enter Try.func22, Try.ntmps22
  go_wp2_with fail
  refine (HA.out _).mono ?_
  rintro e w' ⟨rfl, rfl⟩
  go_wp2
  go_ret
  exact ⟨rfl, rfl⟩
theorem rserves_any (s : Int) (W : World) : Calls Try.prog 24 #[.int .i64 s] W fun e w' => e = .returned (.bool (decide (ServesI s))) ∧ W = w' := by
  have hb : decide (ServesI s) = ((s == 1) || (s == 2) || (s == 3)) := by
    rw [Bool.eq_iff_iff, decide_eq_true_eq]
    simp [ServesI, or_assoc]
  rw [hb]
  cases h1 : s == 1 <;> cases h2 : s == 2 <;> cases h3 : s == 3
  all_goals
    go_enter Try.func24, Try.ntmps24
    go_wp2
    go_ret
    exact ⟨rfl, rfl⟩
end Go.Proofs.Ytcgfldfjadmpdaa
