/- lessorref02.Number. -/
import Derived.Test.YtmaohnbddlccdaaGreatMrgOptD
namespace Go.Proofs.YtmaohnbddlccdaaGreat.NO
open Go.RowKit

set_option maxRecDepth 100000 in
set_option maxHeartbeats 1000000 in
theorem rnumber_any (A : Option Addr) (c : Nat) (l : List UInt8) (w : World) (h : By w w.heap.size A l) (hl : l.length ≤ 1000) :
    Calls Tryz.prog 19 #[.slice A l.length c] w fun e w' => e = .returned (.tuple #[.int .i64 (numR l).1, .int .i64 (numR l).2]) ∧ w = w' := by
  cases hz : sizedB (l.length : Int)
  · have HR := Lib.hid (show numR l = (0, 2) by unfold numR; rw [hz]; rfl)
    have h1 : ((l.length : Int) != 1) = true := by simp [sizedB] at hz ⊢; omega
    have h2 : ((l.length : Int) != 2) = true := by simp [sizedB] at hz ⊢; omega
    have h4 : ((l.length : Int) != 4) = true := by simp [sizedB] at hz ⊢; omega
    clear hz
    go_enter Tryz.func19, Tryz.ntmps19
    go_wp2
    go_ret2
    rw [HR.out]
    exact ⟨rfl, rfl⟩
  · have HR := Lib.hid (show numR l = (((numL l : Nat) : Int), 0) by unfold numR; rw [hz]; rfl)
    have hl4 : l.length ≤ 4 := by simp [sizedB] at hz; omega
    have hone : ((l.length : Int) != 1) = false ∨ (((l.length : Int) != 1) = true ∧ ((l.length : Int) != 2) = false) ∨ (((l.length : Int) != 1) = true ∧ ((l.length : Int) != 2) = true ∧ ((l.length : Int) != 4) = false) := by
      simp [sizedB] at hz ⊢; omega
    clear hz
    rcases hone with h1 | ⟨h1, h2⟩ | ⟨h1, h2, h4⟩
    all_goals
      go_enter Tryz.func19, Tryz.ntmps19
      go_wp2
      go_loop [4, 5] (fun n i => ∃ k m : Nat, k ≤ l.length ∧ i = .int .i64 k ∧ n = .int .i64 (m : Int) ∧ m = numL (l.take k)) (fun _ i => l.length - (intOf i).toNat)
      case atStart => exact ⟨0, 0, Nat.zero_le _, rfl, rfl, rfl⟩
      case round =>
        obtain ⟨k, m, hk, rfl, rfl, hm⟩ := hrel
        have HM := Lib.hid hm
        have hml : m < 256 ^ k := by rw [hm]; have := numL_lt (l.take k); rwa [List.length_take, Nat.min_eq_left hk] at this
        clear hm
        by_cases hlt : k < l.length
        · obtain ⟨x, hx⟩ : ∃ x, l[k]? = some x := ⟨_, List.getElem?_eq_getElem hlt⟩
          obtain ⟨b, o, rfl, hb, hc⟩ := h.at_ k x hx
          have hml2 : m < 16777216 := Nat.lt_of_lt_of_le hml (Nat.pow_le_pow_right (by omega) (show k ≤ 3 by omega))
          have hxx := x.toNat_lt
          go_wp2
          go_round
          case rel => exact ⟨k + 1, m * 256 + x.toNat, by omega, by go_num, by go_num, by rw [take_snoc_of l k x hx, numL_snoc, ← HM.out]⟩
          case measure => simp [intOf]; omega
        · go_wp2
          go_ret2
          rw [HR.out, HM.out, List.take_of_length_le (by omega)]
          exact ⟨rfl, rfl⟩
end Go.Proofs.YtmaohnbddlccdaaGreat.NO
