/- Joined texts: SrtM, SrtA, SrtB. -/
import Derived.Shelf.GgSortFunc.SW
import Derived.Sort.WalkA
import Derived.CellFam
import Derived.BigQuiet
import Derived.BigRegion
import Derived.Lib.Hide
import Derived.Test.YtablffjhipgfbaaChecked
import Derived.Sort.WalkB3

/- Addresses in a row of cells, as the library's plain sort speaks of them: what is read of the row, and what an exchange makes of it. (Names no function and no type of the program.) -/
section
namespace Go.Proofs.Ytablffjhipgfbaa
open Go.Shelf Go.RowKit Go.Lib Go.Sort

/-- An address in its cell. -/
abbrev enU : Int → Value := Value.int .u32
/-- The row that is sorted, as it was at first. -/
structure RowU (w0 : World) (b o : Nat) (d0 : Array Int) : Prop where
  holds : Holds enU w0 b o d0
  low : b < w0.heap.size
variable {w0 W : World} {b o : Nat} {d0 d : Array Int}
/-- All cells of the row, under a name of their own. -/
theorem fam {N : Nat} (S : SW enU w0 b o d W) (R : RowU w0 b o d0) (h0 : d0.size = N) (hs : d.size = N) :
    ∃ G : Nat → Int, Hid (∀ t, G t = d[t]!) ∧ (∀ t, t < N → W.cell? ⟨b, o + t, none⟩ = some (.int .u32 (G t))) ∧ (∀ t, t < N → W.frozen? ⟨b, o + t, none⟩ = false) :=
  ⟨fun t => d[t]!, fun _ => rfl, fun t ht => (S.holds R.low R.holds (hs.trans h0.symm) t (by omega)).1, fun t ht => (S.holds R.low R.holds (hs.trans h0.symm) t (by omega)).2⟩
/-- An exchange. -/
theorem exch {G : Nat → Int} (S : SW enU w0 b o d W) (R : RowU w0 b o d0) (HG : Hid (∀ t, G t = d[t]!)) (i j : Nat) (hi : i < d.size) (hj : j < d.size) :
    SW enU w0 b o (swp d i j) ((W.setCell ⟨b, o + i, none⟩ (.int .u32 (G j))).setCell ⟨b, o + j, none⟩ (.int .u32 (G i))) := by
  rw [HG.out, HG.out]
  exact S.swap R.low i j hi hj
theorem SWdrew (S : SW enU w0 b o d W) : SW enU w0 b o d W.drew := S.drewN 1
end Go.Proofs.Ytablffjhipgfbaa
end

/- The library's plain sort at addresses: which is less; insertion. -/
section
namespace Go.Proofs.Ytablffjhipgfbaa
open Go.Shelf Go.RowKit Go.Lib Go.Sort

theorem uNaN_any (x : Int) (w : World) : Calls Try.prog 61 #[.int .u32 x] w fun e w' => e = .returned (.bool false) ∧ w' = w := by
  go_enter Try.func61, Try.ntmps61
  go_wp2
  go_ret
  exact ⟨by simp, rfl⟩
theorem uless_any (x y : Int) (w : World) : Calls Try.prog 54 #[.int .u32 x, .int .u32 y] w fun e w' => e = .returned (.bool (ltInt x y)) ∧ w' = w := by
  go_enter Try.func54, Try.ntmps54
  go_wp2_with (first | (go_at_call 61; refine (uNaN_any _ _).mono ?_; rintro e w' ⟨rfl, rfl⟩))
  go_ret
  exact ⟨rfl, rfl⟩

set_option maxHeartbeats 4000000 in
set_option maxRecDepth 100000 in
theorem uinsert_any {w0 w : World} {b o c : Nat} {d0 d : Array Int} {lo hi : Nat} (R : RowU w0 b o d0) (hs : d.size = d0.size) (S : SW enU w0 b o d w) (h1 : lo ≤ hi) (h2 : hi ≤ d.size) (hz : d.size < 4611686018427387904) :
    Calls Try.prog 48 #[.slice (some ⟨b, o, none⟩) d.size c, .int .i64 lo, .int .i64 hi] w fun e w' => e = .returned (.tuple #[]) ∧ SW enU w0 b o (insertionSort ltInt d lo hi) w' := by
  obtain ⟨N, hN⟩ : ∃ N, N = d.size := ⟨_, rfl⟩
  rw [← hN] at h2 hz ⊢
  have RR := hid R
  have S0 := hid S
  have hs0 : Hid (d0.size = N) := hid (by omega)
  clear R S hs
  have hdN : Hid (d.size = N) := hid hN.symm
  clear hN
  have HL := hid (fun V x y => uless_any x y V)
  go_enter Try.func48, Try.ntmps48
  go_wp2
  go_loopw [6] (fun vi wr => ∃ (i : Nat) (dk : Array Int), vi = .int .i64 i ∧ lo < i ∧ i ≤ hi + 1 ∧ Hid (dk.size = N) ∧ Hid (SW enU w0 b o dk wr) ∧ Hid (insOuter ltInt lo hi i dk = insOuter ltInt lo hi (lo + 1) d)) (fun vi _ => hi + 1 - (intOf vi).toNat)
  case atStart => exact ⟨lo + 1, d, by go_num, by omega, by omega, hdN, S0, hid rfl⟩
  case round =>
    obtain ⟨i, dk, rfl, hi1, hi2, hk, SK, HO⟩ := hrel
    by_cases hlt : i < hi
    · go_wp2
      go_loopw [7] (fun vj wr => ∃ (j : Nat) (dj : Array Int), vj = .int .i64 j ∧ lo ≤ j ∧ j ≤ i ∧ Hid (dj.size = N) ∧ Hid (SW enU w0 b o dj wr) ∧ Hid (insInner ltInt lo j dj = insInner ltInt lo i dk)) (fun vj _ => (intOf vj).toNat)
      case atStart => exact ⟨i, dk, rfl, by omega, Nat.le_refl _, hk, SK, hid rfl⟩
      case round =>
        obtain ⟨j, dj, rfl, hj1, hj2, hkj, SJ, HI⟩ := hrel
        clear SK
        have OUT : Hid (j ≤ lo ∨ ltInt dj[j]! dj[j - 1]! = false → insOuter ltInt lo hi (i + 1) dj = insOuter ltInt lo hi (lo + 1) d) := hid fun h => by
          rw [← HO.out, insOuter_go _ _ _ _ _ hlt, ← HI.out, insInner_stop _ _ _ _ h]
        obtain ⟨G, HG, hc, hf⟩ := fam SJ.out RR.out hs0.out hkj.out
        by_cases hj : lo < j
        · go_wp2_with fail
          go_quiet (first | (go_at_call 54; refine Calls.quiet_of_same (HL.out _ _ _)))
          have SQ := hid (SJ.out.drewN nq)
          clear SJ
          go_wp2
          · have hl : ltInt (G j) (G (j - 1)) = true := by assumption
            go_region
            all_goals go_wp2
            go_roundw
            case rel => exact ⟨j - 1, swp dj j (j - 1), by congr 1; omega, by omega, by omega, hid (by rw [size_swp]; exact hkj.out), hid (SWdrew (exch SQ.out RR.out HG j (j - 1) (by have := hkj.out; omega) (by have := hkj.out; omega))), hid (by rw [← HI.out, insInner_go ltInt lo j dj hj (by rw [← HG.out, ← HG.out]; exact hl)])⟩
            case measure => simp [intOf]; omega
          · have hl : ltInt (G j) (G (j - 1)) = false := by assumption
            go_roundw
            case rel => exact ⟨i + 1, dj, by go_num, by omega, by omega, hkj, SQ, hid (OUT.out (.inr (by rw [← HG.out, ← HG.out]; exact hl)))⟩
            case measure => simp [intOf]; omega
        · go_wp2_with fail
          go_quiet (first | (go_at_call 54; refine Calls.quiet_of_same (HL.out _ _ _)))
          have SQ := hid (SJ.out.drewN nq)
          go_wp2
          go_roundw
          case rel => exact ⟨i + 1, dj, by go_num, by omega, by omega, hkj, SQ, hid (OUT.out (.inl (by omega)))⟩
          case measure => simp [intOf]; omega
    · go_wp2
      go_end0
      exact ⟨rfl, by unfold insertionSort; rw [← HO.out, insOuter_stop _ _ _ _ _ hlt]; exact SK.out⟩
end Go.Proofs.Ytablffjhipgfbaa
end

/- The library's plain sort at addresses: a row turned round; a heap. -/
section
namespace Go.Proofs.Ytablffjhipgfbaa
open Go.Shelf Go.RowKit Go.Lib Go.Sort

theorem notT {x : Bool} (h : (!x) = true) : x = false := by simpa using h
theorem notF {x : Bool} (h : (!x) = false) : x = true := by simpa using h
theorem turn_go (i j : Nat) (d : Array Int) (h : i < j) : reverseLoop i j d = reverseLoop (i + 1) (j - 1) (swp d i j) := by rw [reverseLoop, if_pos h]
theorem turn_end (i j : Nat) (d : Array Int) (h : ¬ i < j) : reverseLoop i j d = d := by rw [reverseLoop, if_neg h]

set_option maxHeartbeats 4000000 in
set_option maxRecDepth 100000 in
theorem uturn_any {w0 w : World} {b o c : Nat} {d0 d : Array Int} {lo hi : Nat} (R : RowU w0 b o d0) (hs : d.size = d0.size) (S : SW enU w0 b o d w) (h1 : lo < hi) (h2 : hi ≤ d.size) (hz : d.size < 4611686018427387904) :
    Calls Try.prog 52 #[.slice (some ⟨b, o, none⟩) d.size c, .int .i64 lo, .int .i64 hi] w fun e w' => e = .returned (.tuple #[]) ∧ SW enU w0 b o (reverseRange d lo hi) w' := by
  obtain ⟨N, hN⟩ : ∃ N, N = d.size := ⟨_, rfl⟩
  rw [← hN] at h2 hz ⊢
  have RR := hid R
  have S0 := hid S
  have hs0 : Hid (d0.size = N) := hid (by omega)
  have hdN : Hid (d.size = N) := hid hN.symm
  clear R S hs hN
  go_enter Try.func52, Try.ntmps52
  go_wp2
  go_loopw [6, 7] (fun vi vj wr => ∃ (i j : Nat) (dk : Array Int), vi = .int .i64 i ∧ vj = .int .i64 j ∧ j < hi ∧ i ≤ hi ∧ Hid (dk.size = N) ∧ Hid (SW enU w0 b o dk wr) ∧ Hid (reverseLoop i j dk = reverseLoop lo (hi - 1) d)) (fun vi _ _ => hi - (intOf vi).toNat)
  case atStart => exact ⟨lo, hi - 1, d, rfl, by go_num, by omega, by omega, hdN, S0, hid rfl⟩
  case round =>
    obtain ⟨i, j, dk, rfl, rfl, hj, hi1, hk, SK, HO⟩ := hrel
    by_cases hlt : i < j
    · obtain ⟨G, HG, hc, hf⟩ := fam SK.out RR.out hs0.out hk.out
      have SX := hid (SWdrew (exch SK.out RR.out HG i j (by have := hk.out; omega) (by have := hk.out; omega)))
      go_wp2_with fail
      go_region
      all_goals go_wp2
      go_roundw
      case rel => exact ⟨i + 1, j - 1, swp dk i j, by go_num, by go_num, by omega, by omega, hid (by rw [size_swp]; exact hk.out), SX, hid (by rw [← HO.out, ← turn_go i j dk hlt])⟩
      case measure => simp [intOf]; omega
    · go_wp2
      go_end0
      exact ⟨rfl, by unfold reverseRange; rw [← HO.out, turn_end _ _ _ hlt]; exact SK.out⟩

/-- The cells again, in a later world. -/
theorem cellsU {w0 W : World} {b o : Nat} {d0 d : Array Int} {N : Nat} {G : Nat → Int} (S : SW enU w0 b o d W) (R : RowU w0 b o d0) (h0 : d0.size = N) (hs : d.size = N) (HG : Hid (∀ t, G t = d[t]!)) :
    (∀ t, t < N → W.cell? ⟨b, o + t, none⟩ = some (.int .u32 (G t))) ∧ (∀ t, t < N → W.frozen? ⟨b, o + t, none⟩ = false) := by
  refine ⟨fun t ht => ?_, fun t ht => (S.holds R.low R.holds (hs.trans h0.symm) t (by omega)).2⟩
  rw [HG.out]
  exact (S.holds R.low R.holds (hs.trans h0.symm) t (by omega)).1

set_option maxHeartbeats 8000000 in
set_option maxRecDepth 100000 in
theorem usift_any {w0 w : World} {b o c : Nat} {d0 d : Array Int} {lo hi first : Nat} (R : RowU w0 b o d0) (hs : d.size = d0.size) (S : SW enU w0 b o d w) (h1 : lo ≤ hi) (h2 : first + hi ≤ d.size) (hz : d.size < 4611686018427387904) :
    Calls Try.prog 65 #[.slice (some ⟨b, o, none⟩) d.size c, .int .i64 lo, .int .i64 hi, .int .i64 first] w fun e w' => e = .returned (.tuple #[]) ∧ SW enU w0 b o (siftDown ltInt hi first lo d) w' := by
  obtain ⟨N, hN⟩ : ∃ N, N = d.size := ⟨_, rfl⟩
  rw [← hN] at h2 hz ⊢
  have RR := hid R
  have S0 := hid S
  have hs0 : Hid (d0.size = N) := hid (by omega)
  have hdN : Hid (d.size = N) := hid hN.symm
  have HL := hid (fun V x y => uless_any x y V)
  clear R S hs hN
  go_enter Try.func65, Try.ntmps65
  go_wp2
  go_loopw [8] (fun vi wr => ∃ (root : Nat) (dk : Array Int), vi = .int .i64 root ∧ root ≤ hi ∧ Hid (dk.size = N) ∧ Hid (SW enU w0 b o dk wr) ∧ Hid (siftDown ltInt hi first root dk = siftDown ltInt hi first lo d)) (fun vi _ => hi - (intOf vi).toNat)
  case atStart => exact ⟨lo, d, rfl, h1, hdN, S0, hid rfl⟩
  case round =>
    obtain ⟨root, dk, rfl, hr, hk, SK, HO⟩ := hrel
    obtain ⟨G, HG, hc, hf⟩ := fam SK.out RR.out hs0.out hk.out
    by_cases ha : hi ≤ 2 * root + 1
    · have haz : (hi : Int) ≤ 2 * (root : Int) + 1 := by omega
      go_wp2
      go_end0
      exact ⟨rfl, by rw [← HO.out, sd_end ltInt dk ha]; exact SK.out⟩
    · have haz : ¬ ((hi : Int) ≤ 2 * (root : Int) + 1) := by omega
      by_cases hb : 2 * root + 2 < hi
      · have hbz : 2 * (root : Int) + 1 + 1 < (hi : Int) := by omega
        go_wp2_with fail
        go_quiet (first | (go_at_call 54; refine Calls.quiet_of_same (HL.out _ _ _)))
        go_wp2_with fail
        · have hL : ltInt dk[first + (2 * root + 1)]! dk[first + (2 * root + 2)]! = true := by
            rw [← HG.out, ← HG.out]
            assumption
          have SQ := hid (SK.out.drewN nq)
          clear SK hc hf
          generalize wr.drewN nq = w1 at SQ ⊢
          clear nq
          have hc : ∀ t, t < N → w1.cell? ⟨b, o + t, none⟩ = some (.int .u32 (G t)) := (cellsU SQ.out RR.out hs0.out hk.out HG).1
          have hf : ∀ t, t < N → w1.frozen? ⟨b, o + t, none⟩ = false := (cellsU SQ.out RR.out hs0.out hk.out HG).2
          go_quiet (first | (go_at_call 54; refine Calls.quiet_of_same (HL.out _ _ _)))
          have SZ := hid (SQ.out.drewN nq)
          clear SQ hc hf
          generalize w1.drewN nq = w2 at SZ ⊢
          clear nq
          have hc : ∀ t, t < N → w2.cell? ⟨b, o + t, none⟩ = some (.int .u32 (G t)) := (cellsU SZ.out RR.out hs0.out hk.out HG).1
          have hf : ∀ t, t < N → w2.frozen? ⟨b, o + t, none⟩ = false := (cellsU SZ.out RR.out hs0.out hk.out HG).2
          go_wp2_with fail
          · have hS : ltInt dk[first + root]! dk[first + (2 * root + 2)]! = false := by
              rw [← HG.out, ← HG.out]
              have h : (!ltInt (G (first + root)) (G (first + 2 * root + 2))) = true := by assumption
              exact notT h
            (try simp only [Exit.inBlock, Exit.then])
            refine bodyPost_ret (results_none rfl _ _ _) rfl ?_
            exact ⟨rfl, by rw [← HO.out, sd_right_stop ltInt dk hb hL hS]; exact SZ.out⟩
          · have hG : ltInt dk[first + root]! dk[first + (2 * root + 2)]! = true := by
              rw [← HG.out, ← HG.out]
              have h : (!ltInt (G (first + root)) (G (first + 2 * root + 2))) = false := by assumption
              exact notF h
            have SX := hid (SWdrew (exch SZ.out RR.out HG (first + root) (first + (2 * root + 2)) (by have := hk.out; omega) (by have := hk.out; omega)))
            go_region
            all_goals go_wp2
            go_roundw
            case rel => exact ⟨2 * root + 2, swp dk (first + root) (first + (2 * root + 2)), by simp <;> omega, by omega, hid (by rw [size_swp]; exact hk.out), SX, hid (by rw [← HO.out, sd_right_go ltInt dk hb hL hG])⟩
            case measure => simp [intOf]; omega
        · have hL : ltInt dk[first + (2 * root + 1)]! dk[first + (2 * root + 2)]! = false := by
            rw [← HG.out, ← HG.out]
            assumption
          have SQ := hid (SK.out.drewN nq)
          clear SK hc hf
          generalize wr.drewN nq = w1 at SQ ⊢
          clear nq
          have hc : ∀ t, t < N → w1.cell? ⟨b, o + t, none⟩ = some (.int .u32 (G t)) := (cellsU SQ.out RR.out hs0.out hk.out HG).1
          have hf : ∀ t, t < N → w1.frozen? ⟨b, o + t, none⟩ = false := (cellsU SQ.out RR.out hs0.out hk.out HG).2
          go_quiet (first | (go_at_call 54; refine Calls.quiet_of_same (HL.out _ _ _)))
          have SZ := hid (SQ.out.drewN nq)
          clear SQ hc hf
          generalize w1.drewN nq = w2 at SZ ⊢
          clear nq
          have hc : ∀ t, t < N → w2.cell? ⟨b, o + t, none⟩ = some (.int .u32 (G t)) := (cellsU SZ.out RR.out hs0.out hk.out HG).1
          have hf : ∀ t, t < N → w2.frozen? ⟨b, o + t, none⟩ = false := (cellsU SZ.out RR.out hs0.out hk.out HG).2
          go_wp2_with fail
          · have hS : ltInt dk[first + root]! dk[first + (2 * root + 1)]! = false := by
              rw [← HG.out, ← HG.out]
              have h : (!ltInt (G (first + root)) (G (first + 2 * root + 1))) = true := by assumption
              exact notT h
            (try simp only [Exit.inBlock, Exit.then])
            refine bodyPost_ret (results_none rfl _ _ _) rfl ?_
            exact ⟨rfl, by rw [← HO.out, sd_left_stop ltInt dk (by omega) (fun _ => hL) hS]; exact SZ.out⟩
          · have hG : ltInt dk[first + root]! dk[first + (2 * root + 1)]! = true := by
              rw [← HG.out, ← HG.out]
              have h : (!ltInt (G (first + root)) (G (first + 2 * root + 1))) = false := by assumption
              exact notF h
            have SX := hid (SWdrew (exch SZ.out RR.out HG (first + root) (first + (2 * root + 1)) (by have := hk.out; omega) (by have := hk.out; omega)))
            go_region
            all_goals go_wp2
            go_roundw
            case rel => exact ⟨2 * root + 1, swp dk (first + root) (first + (2 * root + 1)), by simp <;> omega, by omega, hid (by rw [size_swp]; exact hk.out), SX, hid (by rw [← HO.out, sd_left_go ltInt dk (by omega) (fun _ => hL) hG])⟩
            case measure => simp [intOf]; omega
      · have hbz : decide (2 * (root : Int) + 1 + 1 < (hi : Int)) = false := decide_eq_false (by omega)
        go_wp2_with fail
        go_quiet (first | (go_at_call 54; refine Calls.quiet_of_same (HL.out _ _ _)))
        go_wp2_with fail
        have SQ := hid (SK.out.drewN nq)
        clear SK hc hf
        generalize wr.drewN nq = w1 at SQ ⊢
        clear nq
        have hc : ∀ t, t < N → w1.cell? ⟨b, o + t, none⟩ = some (.int .u32 (G t)) := (cellsU SQ.out RR.out hs0.out hk.out HG).1
        have hf : ∀ t, t < N → w1.frozen? ⟨b, o + t, none⟩ = false := (cellsU SQ.out RR.out hs0.out hk.out HG).2
        go_quiet (first | (go_at_call 54; refine Calls.quiet_of_same (HL.out _ _ _)))
        have SZ := hid (SQ.out.drewN nq)
        clear SQ hc hf
        generalize w1.drewN nq = w2 at SZ ⊢
        clear nq
        have hc : ∀ t, t < N → w2.cell? ⟨b, o + t, none⟩ = some (.int .u32 (G t)) := (cellsU SZ.out RR.out hs0.out hk.out HG).1
        have hf : ∀ t, t < N → w2.frozen? ⟨b, o + t, none⟩ = false := (cellsU SZ.out RR.out hs0.out hk.out HG).2
        go_wp2_with fail
        · have hS : ltInt dk[first + root]! dk[first + (2 * root + 1)]! = false := by
            rw [← HG.out, ← HG.out]
            have h : (!ltInt (G (first + root)) (G (first + 2 * root + 1))) = true := by assumption
            exact notT h
          (try simp only [Exit.inBlock, Exit.then])
          refine bodyPost_ret (results_none rfl _ _ _) rfl ?_
          exact ⟨rfl, by rw [← HO.out, sd_left_stop ltInt dk (by omega) (fun h => absurd h hb) hS]; exact SZ.out⟩
        · have hG : ltInt dk[first + root]! dk[first + (2 * root + 1)]! = true := by
            rw [← HG.out, ← HG.out]
            have h : (!ltInt (G (first + root)) (G (first + 2 * root + 1))) = false := by assumption
            exact notF h
          have SX := hid (SWdrew (exch SZ.out RR.out HG (first + root) (first + (2 * root + 1)) (by have := hk.out; omega) (by have := hk.out; omega)))
          go_region
          all_goals go_wp2
          go_roundw
          case rel => exact ⟨2 * root + 1, swp dk (first + root) (first + (2 * root + 1)), by simp <;> omega, by omega, hid (by rw [size_swp]; exact hk.out), SX, hid (by rw [← HO.out, sd_left_go ltInt dk (by omega) (fun h => absurd h hb) hG])⟩
          case measure => simp [intOf]; omega

set_option maxHeartbeats 4000000 in
set_option maxRecDepth 100000 in
theorem uheap_any {w0 w : World} {b o c : Nat} {d0 d : Array Int} {lo hi : Nat} (R : RowU w0 b o d0) (hs : d.size = d0.size) (S : SW enU w0 b o d w) (h1 : lo < hi) (h2 : hi ≤ d.size) (hz : d.size < 4611686018427387904) :
    Calls Try.prog 49 #[.slice (some ⟨b, o, none⟩) d.size c, .int .i64 lo, .int .i64 hi] w fun e w' => e = .returned (.tuple #[]) ∧ SW enU w0 b o (heapSort ltInt d lo hi) w' := by
  obtain ⟨N, hN⟩ : ∃ N, N = d.size := ⟨_, rfl⟩
  rw [← hN] at h2 hz ⊢
  have RR := hid R
  have S0 := hid S
  have hs0 : Hid (d0.size = N) := hid (by omega)
  have hdN : Hid (d.size = N) := hid hN.symm
  have HC : Hid (∀ (V : World) (dk : Array Int) (r h : Nat), dk.size = N → SW enU w0 b o dk V → r ≤ h → lo + h ≤ N → Calls Try.prog 65 #[.slice (some ⟨b, o, none⟩) N c, .int .i64 r, .int .i64 h, .int .i64 lo] V fun e w' => e = .returned (.tuple #[]) ∧ SW enU w0 b o (siftDown ltInt h lo r dk) w') := hid fun V dk r h hk SV e1 e2 => by
    have := usift_any (c := c) (lo := r) (hi := h) (first := lo) R (by omega) SV e1 (by omega) (by omega)
    rwa [hk] at this
  clear R S hs hN
  have hsz : ∀ (h r : Nat) (dk : Array Int), (siftDown ltInt h lo r dk).size = dk.size := fun h r dk => size_siftDown ltInt _ _ _ _ _ (Nat.le_refl _)
  have HZ := hid hsz
  clear hsz
  have e0 : ((hi - lo : Nat) : Int) = (hi : Int) - (lo : Int) := by omega
  have eh := half_start (Nat.le_of_lt h1)
  obtain ⟨n, hn⟩ : ∃ n, n = hi - lo := ⟨_, rfl⟩
  obtain ⟨m, hm⟩ : ∃ m, m = (hi - lo - 1) / 2 + 1 := ⟨_, rfl⟩
  rw [← hm] at eh
  rw [← hn] at e0
  have hmn : m ≤ n := by omega
  have hln : lo + n ≤ N := by omega
  have HN := hid hn
  have HM := hid hm
  clear hn hm
  go_enter Try.func49, Try.ntmps49
  go_wp2
  go_loopg [9] m (fun k vi wr => vi = .int .i64 ((k : Int) - 1) ∧ k ≤ m ∧ ∃ (dk : Array Int), Hid (dk.size = N) ∧ Hid (SW enU w0 b o dk wr) ∧ Hid (heapBuild ltInt n lo k dk = heapBuild ltInt n lo m d))
  case atStart => exact ⟨by first | rfl | rw [eh], Nat.le_refl _, d, hdN, S0, hid rfl⟩
  case round =>
    obtain ⟨rfl, hk1, dk, hk, SK, HO⟩ := hrel
    cases gk with
    | zero =>
      go_wp2
      go_loopg [10] n (fun k vi wr => vi = .int .i64 ((k : Int) - 1) ∧ k ≤ n ∧ ∃ (dj : Array Int), Hid (dj.size = N) ∧ Hid (SW enU w0 b o dj wr) ∧ Hid (heapPop ltInt lo k dj = heapPop ltInt lo n dk))
      case atStart => exact ⟨by first | rfl | rw [e0], Nat.le_refl _, dk, hk, SK, hid rfl⟩
      case round =>
        obtain ⟨rfl, hj1, dj, hj, SJ, HP⟩ := hrel
        clear SK
        cases gk with
        | zero =>
          go_wp2
          go_end0
          refine ⟨rfl, ?_⟩
          have e : dj = heapSort ltInt d lo hi := by
            unfold heapSort
            have hm : m = (n - 1) / 2 + 1 := by
              have := HN.out
              have := HM.out
              omega
            rw [← HN.out, ← hm, ← HO.out]
            show dj = heapPop ltInt lo n dk
            rw [← HP.out]
            rfl
          rw [← e]
          exact SJ.out
        | succ j =>
          obtain ⟨G, HG, hc, hf⟩ := fam SJ.out RR.out hs0.out hj.out
          rcases Nat.eq_zero_or_pos j with rfl | hj0
          · have SX := hid (SWdrew (exch SJ.out RR.out HG lo lo (by have := hj.out; omega) (by have := hj.out; omega)))
            go_wp2_with fail
            go_region
            go_wp2_with fail
            refine (HC.out _ _ 0 0 (by rw [size_swp]; exact hj.out) SX.out (Nat.zero_le _) (by omega)).mono ?_
            rintro e w3 ⟨rfl, h3⟩
            go_wp2
            go_roundg 0
            case rel => exact ⟨by simp, by omega, siftDown ltInt 0 lo 0 (swp dj lo lo), hid (by rw [HZ.out, size_swp]; exact hj.out), hid h3, hid (by rw [← HP.out]; rfl)⟩
            case measure => omega
          · have SX := hid (SWdrew (exch SJ.out RR.out HG lo (lo + j) (by have := hj.out; omega) (by have := hj.out; omega)))
            go_wp2_with fail
            go_region
            go_wp2_with fail
            refine (HC.out _ _ 0 j (by rw [size_swp]; exact hj.out) SX.out (Nat.zero_le _) (by omega)).mono ?_
            rintro e w3 ⟨rfl, h3⟩
            go_wp2
            go_roundg j
            case rel => exact ⟨by simp, by omega, siftDown ltInt j lo 0 (swp dj lo (lo + j)), hid (by rw [HZ.out, size_swp]; exact hj.out), hid h3, hid (by rw [← HP.out]; rfl)⟩
            case measure => omega
    | succ k =>
      have hcall := HC.out wr dk k n hk.out SK.out (by omega) hln
      rw [e0] at hcall
      go_wp2_with (go_at_call 65; refine hcall.mono ?_; rintro e w3 ⟨rfl, h3⟩)
      go_roundg k
      case rel => exact ⟨by simp, by omega, siftDown ltInt n lo k dk, hid (by rw [HZ.out]; exact hk.out), hid h3, hid (by rw [← HO.out]; rfl)⟩
      case measure => omega
end Go.Proofs.Ytablffjhipgfbaa
end
