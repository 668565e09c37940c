/- The library's plain sort at addresses: which is less; insertion. -/
import Derived.Test.YtiapmnedbjmmhaaSrtM
namespace Go.Proofs.Ytiapmnedbjmmhaa
open Go.Shelf Go.RowKit Go.Lib Go.Sort

theorem uNaN_any (x : Int) (w : World) : Calls Try.prog 52 #[.int .u32 x] w fun e w' => e = .returned (.bool false) ∧ w' = w := by
  go_enter Try.func52, Try.ntmps52
  go_wp2
  go_ret
  exact ⟨by simp, rfl⟩
theorem uless_any (x y : Int) (w : World) : Calls Try.prog 40 #[.int .u32 x, .int .u32 y] w fun e w' => e = .returned (.bool (ltInt x y)) ∧ w' = w := by
  go_enter Try.func40, Try.ntmps40
  go_wp2_with (first | (go_at_call 52; refine (uNaN_any _ _).mono ?_; rintro e w' ⟨rfl, rfl⟩))
  go_ret
  exact ⟨rfl, rfl⟩

set_option maxHeartbeats 4000000 in
set_option maxRecDepth 100000 in
theorem uinsert_any {w0 w : World} {b o c : Nat} {d0 d : Array Int} {lo hi : Nat} (R : RowU w0 b o d0) (hs : d.size = d0.size) (S : SW enU w0 b o d w) (h1 : lo ≤ hi) (h2 : hi ≤ d.size) (hz : d.size < 4611686018427387904) :
    Calls Try.prog 34 #[.slice (some ⟨b, o, none⟩) d.size c, .int .i64 lo, .int .i64 hi] w fun e w' => e = .returned (.tuple #[]) ∧ SW enU w0 b o (insertionSort ltInt d lo hi) w' := by
  obtain ⟨N, hN⟩ : ∃ N, N = d.size := ⟨_, rfl⟩
  rw [← hN] at h2 hz ⊢
  have RR := hid R
  have S0 := hid S
  have hs0 : Hid (d0.size = N) := hid (by omega)
  clear R S hs
  have hdN : Hid (d.size = N) := hid hN.symm
  clear hN
  have HL := hid (fun V x y => uless_any x y V)
  go_enter Try.func34, Try.ntmps34
  go_wp2
  go_loopw [6] (fun vi wr => ∃ (i : Nat) (dk : Array Int), vi = .int .i64 i ∧ lo < i ∧ i ≤ hi + 1 ∧ Hid (dk.size = N) ∧ Hid (SW enU w0 b o dk wr) ∧ Hid (insOuter ltInt lo hi i dk = insOuter ltInt lo hi (lo + 1) d)) (fun vi _ => hi + 1 - (intOf vi).toNat)
  case atStart => exact ⟨lo + 1, d, by go_num, by omega, by omega, hdN, S0, hid rfl⟩
  case round =>
    obtain ⟨i, dk, rfl, hi1, hi2, hk, SK, HO⟩ := hrel
    by_cases hlt : i < hi
    · go_wp2
      go_loopw [7] (fun vj wr => ∃ (j : Nat) (dj : Array Int), vj = .int .i64 j ∧ lo ≤ j ∧ j ≤ i ∧ Hid (dj.size = N) ∧ Hid (SW enU w0 b o dj wr) ∧ Hid (insInner ltInt lo j dj = insInner ltInt lo i dk)) (fun vj _ => (intOf vj).toNat)
      case atStart => exact ⟨i, dk, rfl, by omega, Nat.le_refl _, hk, SK, hid rfl⟩
      case round =>
        obtain ⟨j, dj, rfl, hj1, hj2, hkj, SJ, HI⟩ := hrel
        clear SK
        have OUT : Hid (j ≤ lo ∨ ltInt dj[j]! dj[j - 1]! = false → insOuter ltInt lo hi (i + 1) dj = insOuter ltInt lo hi (lo + 1) d) := hid fun h => by
          rw [← HO.out, insOuter_go _ _ _ _ _ hlt, ← HI.out, insInner_stop _ _ _ _ h]
        obtain ⟨G, HG, hc, hf⟩ := fam SJ.out RR.out hs0.out hkj.out
        by_cases hj : lo < j
        · go_wp2_with fail
          go_quiet (first | (go_at_call 40; refine Calls.quiet_of_same (HL.out _ _ _)))
          have SQ := hid (SJ.out.drewN nq)
          clear SJ
          go_wp2
          · have hl : ltInt (G j) (G (j - 1)) = true := by assumption
            go_region
            all_goals go_wp2
            go_roundw
            case rel => exact ⟨j - 1, swp dj j (j - 1), by congr 1; omega, by omega, by omega, hid (by rw [size_swp]; exact hkj.out), hid (SWdrew (exch SQ.out RR.out HG j (j - 1) (by have := hkj.out; omega) (by have := hkj.out; omega))), hid (by rw [← HI.out, insInner_go ltInt lo j dj hj (by rw [← HG.out, ← HG.out]; exact hl)])⟩
            case measure => simp [intOf]; omega
          · have hl : ltInt (G j) (G (j - 1)) = false := by assumption
            go_roundw
            case rel => exact ⟨i + 1, dj, by go_num, by omega, by omega, hkj, SQ, hid (OUT.out (.inr (by rw [← HG.out, ← HG.out]; exact hl)))⟩
            case measure => simp [intOf]; omega
        · go_wp2_with fail
          go_quiet (first | (go_at_call 40; refine Calls.quiet_of_same (HL.out _ _ _)))
          have SQ := hid (SJ.out.drewN nq)
          go_wp2
          go_roundw
          case rel => exact ⟨i + 1, dj, by go_num, by omega, by omega, hkj, SQ, hid (OUT.out (.inl (by omega)))⟩
          case measure => simp [intOf]; omega
    · go_wp2
      go_end0
      exact ⟨rfl, by unfold insertionSort; rw [← HO.out, insOuter_stop _ _ _ _ _ hlt]; exact SK.out⟩
end Go.Proofs.Ytiapmnedbjmmhaa
