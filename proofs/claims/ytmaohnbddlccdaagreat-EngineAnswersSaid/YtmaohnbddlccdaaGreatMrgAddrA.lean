/- The small functions of addr: reaches, cmp.Compare at Addr, and the closure by which ranges are sorted. -/
import Derived.Test.YtmaohnbddlccdaaGreatProg
import Derived.Test.YtmaohnbddlccdaaGreatMrgAddrL
import Derived.WalkKit
import Derived.WalkSpells
import Derived.WalkLawsBesides
import Derived.Lib.Hide
import Derived.Sort.Grow
namespace Go.Proofs.YtmaohnbddlccdaaGreat
open Go.RowKit Go.Sort Go.Lib

/-- A range's value. -/
abbrev rgV (x : Nat × Nat) : Value := .agg #[.int .u32 x.1, .int .u32 x.2]

theorem isNaN_addr (x : Int) (w : World) : Calls Tryz.prog 170 #[.int .u32 x] w fun e w' => e = .returned (.bool false) ∧ w = w' := by
  go_enter Tryz.func170, Tryz.ntmps170
  go_wp2
  go_ret
  exact ⟨rfl, rfl⟩

theorem compare_addr (x y : Nat) (w : World) : Calls Tryz.prog 147 #[.int .u32 x, .int .u32 y] w fun e w' => e = .returned (.int .i64 (cmpN x y)) ∧ w = w' := by
  go_enter Tryz.func147, Tryz.ntmps147
  go_wp2_with (go_at_call 170; refine (isNaN_addr _ _).mono ?_; rintro e w' ⟨rfl, rfl⟩)
  all_goals
    go_ret
    refine ⟨?_, rfl⟩
    unfold cmpN
    simp_all
  all_goals omega

theorem reaches_any (l h a : Nat) (w : World) (hh : h < 4294967296) (ha : a < 4294967296) : Calls Tryz.prog 143 #[rgV (l, h), .int .u32 a] w fun e w' => e = .returned (.bool (reachesB h a)) ∧ w' = w.alloc (.cells #[.int .u32 l, .int .u32 h] 89) := by
  by_cases c : a ≤ h
  · go_enter Tryz.func143, Tryz.ntmps143
    go_wp2
    go_ret
    refine ⟨?_, rfl⟩
    simp [reachesB, c]
  · have hd : decide (a ≤ h) = false := by simpa using c
    go_enter Tryz.func143, Tryz.ntmps143
    go_wp2
    go_ret
    refine ⟨?_, rfl⟩
    have e : ((a : Int) - (h : Int) == 1) = decide (a = h + 1) := by
      rw [Bool.eq_iff_iff]; simp; omega
    simp [reachesB, c, e]

/-- The closure: by Low. -/
theorem closure_any (x y : Nat × Nat) (W : World) : Calls Tryz.prog 146 #[rgV x, rgV y] W fun e w' => e = .returned (.int .i64 (cmpN x.1 y.1)) ∧ ∃ q os', w' = grow (W.drewN q) os' := by
  have hcon := fun W' => compare_addr x.1 y.1 W'
  generalize cmpN x.1 y.1 = r at hcon ⊢
  go_enter Tryz.func146, Tryz.ntmps146
  go_wp2_with (go_at_call 147; refine (hcon _).mono ?_; rintro e w' ⟨rfl, rfl⟩)
  go_ret
  exact ⟨rfl, 0, _, by rw [alloc_eq_grow, alloc_eq_grow, grow_grow]; rfl⟩

end Go.Proofs.YtmaohnbddlccdaaGreat
