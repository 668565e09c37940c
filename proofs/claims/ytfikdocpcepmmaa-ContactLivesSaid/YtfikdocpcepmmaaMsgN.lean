/- lessorref04.number, of, within. -/
import Derived.Test.YtfikdocpcepmmaaMsgP
namespace Go.Proofs.Ytfikdocpcepmmaa
open Go.RowKit

theorem within_any (n lo hi : Int) (W : World) : Calls Try.prog 29 #[.int .i64 n, .int .i64 lo, .int .i64 hi] W fun e w' => e = .returned (.bool (wthn n lo hi)) ∧ W = w' := by
  unfold wthn
  by_cases h : lo ≤ n
  · have hd : decide (lo ≤ n) = true := decide_eq_true h
    go_enter Try.func29, Try.ntmps29
    go_wp2
    go_ret
    exact ⟨by simp; intro _; exact h, rfl⟩
  · have hd : decide (lo ≤ n) = false := decide_eq_false h
    clear h
    go_enter Try.func29, Try.ntmps29
    go_wp2
    go_ret
    exact ⟨by simp; intro h; simp [h] at hd, rfl⟩

end Go.Proofs.Ytfikdocpcepmmaa
