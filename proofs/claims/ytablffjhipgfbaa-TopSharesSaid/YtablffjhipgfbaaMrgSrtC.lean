/- Joined texts: SrtC, SrtD. -/
import Derived.Sort.WalkC4
import Derived.Test.YtablffjhipgfbaaMrgSrtM
import Derived.Sort.WalkA6
import Derived.Deep.Cut

/- The library's plain sort at addresses: both partitions (written by gensrtc.py). -/
section
namespace Go.Proofs.Ytablffjhipgfbaa
open Go.Shelf Go.RowKit Go.Lib Go.Sort

set_option maxHeartbeats 16000000 in
set_option maxRecDepth 100000 in
theorem uparteq_any {w0 w : World} {b o c : Nat} {d0 d : Array Int} {lo hi pv : Nat} (R : RowU w0 b o d0) (hs : d.size = d0.size) (S : SW enU w0 b o d w) (h0 : lo ≤ pv) (h1 : pv < hi) (h2 : hi ≤ d.size) (hz : d.size < 4611686018427387904) :
    Calls Try.prog 55 #[.slice (some ⟨b, o, none⟩) d.size c, .int .i64 lo, .int .i64 hi, .int .i64 pv] w fun e w' => e = .returned (.int .i64 (partitionEqual ltInt d lo hi pv).1) ∧ SW enU w0 b o (partitionEqual ltInt d lo hi pv).2 w' := by
  obtain ⟨N, hN⟩ : ∃ N, N = d.size := ⟨_, rfl⟩
  rw [← hN] at h2 hz ⊢
  have RR := hid R
  have S0 := hid S
  have hs0 : Hid (d0.size = N) := hid (by omega)
  have hdN : Hid (d.size = N) := hid hN.symm
  have HL := hid (fun V x y => uless_any x y V)
  clear R S hs hN
  obtain ⟨G0, HG0, hc, hf⟩ := fam S0.out RR.out hs0.out hdN.out
  have SX := hid (SWdrew (exch S0.out RR.out HG0 lo pv (by have := hdN.out; omega) (by have := hdN.out; omega)))
  obtain ⟨v0, hv0⟩ := cell?_setCell_some (w := w) (p := ⟨b, o + lo, none⟩) (x := .int .u32 (G0 pv)) (q := ⟨b, o + pv, none⟩) (hc pv (by omega))
  go_enter Try.func55, Try.ntmps55
  go_wp2
  go_region
  go_wp2
  clear hc hf hv0 HG0
  go_loopw [9, 10] (fun vi vj wr => ∃ (i j : Nat) (dk : Array Int), vi = .int .i64 i ∧ vj = .int .i64 j ∧ lo < i ∧ i ≤ j + 1 ∧ j < hi ∧ Hid (dk.size = N) ∧ Hid (SW enU w0 b o dk wr) ∧ Hid (partEqLoop ltInt lo i j dk = partEqLoop ltInt lo (lo + 1) (hi - 1) (swp d lo pv))) (fun vi vj _ => (intOf vj).toNat + 1 - (intOf vi).toNat)
  case atStart => exact ⟨lo + 1, hi - 1, swp d lo pv, by go_num, by go_num, by omega, by omega, by omega, hid (by rw [size_swp]; exact hdN.out), SX, hid rfl⟩
  case round =>
    clear SX
    obtain ⟨i, j, dk, rfl, rfl, hai, hij, hjb, hk, SK, HE⟩ := hrel
    obtain ⟨G, HG, hc, hf⟩ := fam SK.out RR.out hs0.out hk.out
    go_wp2
    go_loopw [9] (fun vi wr => ∃ i' : Nat, vi = .int .i64 i' ∧ i ≤ i' ∧ i' ≤ j + 1 ∧ Hid (SW enU w0 b o dk wr) ∧ Hid (scanUp (fun x => !ltInt dk[lo]! x) dk j i' = scanUp (fun x => !ltInt dk[lo]! x) dk j i)) (fun vi _ => j + 1 - (intOf vi).toNat)
    case atStart => exact ⟨i, rfl, Nat.le_refl _, hij, SK, hid rfl⟩
    case round =>
      clear SK hc hf
      obtain ⟨i', rfl, hii, hij', SK, HU⟩ := hrel
      obtain ⟨hc, hf⟩ := cellsU SK.out RR.out hs0.out hk.out HG
      by_cases hle : i' ≤ j
      · go_wp2_with fail
        go_big_quiet (first | (go_at_call 54; refine Calls.quiet_of_same (HL.out _ _ _)))
        go_wp2
        · have ht : (!ltInt (G lo) (G i')) = true := by assumption
          go_roundw
          case rel => exact ⟨i' + 1, by go_num, by omega, by omega, hid (SK.out.drewN nq), hid ((scanUp_go (fun x => !ltInt dk[lo]! x) dk j i' hle (by rw [← HG.out lo, ← HG.out i']; exact ht)).symm.trans HU.out)⟩
          case measure => simp [intOf]; omega
        · have ht : (!ltInt (G lo) (G i')) = false := by assumption
          have hi2 : Hid (i' = scanUp (fun x => !ltInt dk[lo]! x) dk j i) := hid ((scanUp_end (fun x => !ltInt dk[lo]! x) dk j i' (.inr (by rw [← HG.out lo, ← HG.out i']; exact ht))).symm.trans HU.out)
          clear ht HU
          have SQ := hid (SK.out.drewN nq)
          clear SK hc hf
          generalize wr.drewN nq = w2 at SQ ⊢
          clear nq
          obtain ⟨hc, hf⟩ := cellsU SQ.out RR.out hs0.out hk.out HG
          have SK := SQ
          clear SQ
          go_loopw [10] (fun vj wr => ∃ j' : Nat, vj = .int .i64 j' ∧ j' ≤ j ∧ i' ≤ j' + 1 ∧ Hid (SW enU w0 b o dk wr) ∧ Hid (scanDown (fun x => ltInt dk[lo]! x) dk i' j' = scanDown (fun x => ltInt dk[lo]! x) dk i' j)) (fun vj _ => (intOf vj).toNat)
          case atStart => exact ⟨j, rfl, Nat.le_refl _, hij', SK, hid rfl⟩
          case round =>
            clear SK hc hf
            obtain ⟨j', rfl, hjj, hij2, SK, HD⟩ := hrel
            obtain ⟨hc, hf⟩ := cellsU SK.out RR.out hs0.out hk.out HG
            by_cases hle2 : i' ≤ j'

            · go_wp2_with fail
              go_big_quiet (first | (go_at_call 54; refine Calls.quiet_of_same (HL.out _ _ _)))
              go_wp2
              · have ht : ltInt (G lo) (G j') = true := by assumption
                go_roundw
                case rel => exact ⟨j' - 1, by go_num, by omega, by omega, hid (SK.out.drewN nq), hid ((scanDown_go (fun x => ltInt dk[lo]! x) dk i' j' hle2 (by omega) (by rw [← HG.out lo, ← HG.out j']; exact ht)).symm.trans HD.out)⟩
                case measure => simp [intOf]; omega
              · have ht : ltInt (G lo) (G j') = false := by assumption
                have hj2 : Hid (j' = scanDown (fun x => ltInt dk[lo]! x) dk i' j) := hid ((scanDown_end (fun x => ltInt dk[lo]! x) dk i' j' (.inr (by rw [← HG.out lo, ← HG.out j']; exact ht))).symm.trans HD.out)
                clear ht HD
                have SQ := hid (SK.out.drewN nq)
                clear SK hc hf
                generalize wr.drewN nq = w3 at SQ ⊢
                clear nq
                obtain ⟨hc, hf⟩ := cellsU SQ.out RR.out hs0.out hk.out HG
                have SK := SQ
                clear SQ
                have hlt3 := scans_lt ltInt lo i j dk (by omega) hi2.out hj2.out hle2
                have SY := hid (SWdrew (exch SK.out RR.out HG i' j' (by have := hk.out; omega) (by have := hk.out; omega)))
                obtain ⟨v3, hv3⟩ := cell?_setCell_some (w := w3) (p := ⟨b, o + i', none⟩) (x := .int .u32 (G j')) (q := ⟨b, o + j', none⟩) (hc j' (by omega))
                go_wp2
                go_region
                all_goals go_wp2
                all_goals go_roundw
                case rel => exact ⟨i' + 1, j' - 1, swp dk i' j', by go_num, by go_num, by omega, by omega, by omega, hid (by rw [size_swp]; exact hk.out), SY, hid (by rw [← HE.out]; exact (partEq_go ltInt lo i j dk hi2.out hj2.out (by omega)).symm)⟩
                case measure => simp [intOf]; omega

            · go_wp2_with fail
              go_big_quiet (first | (go_at_call 54; refine Calls.quiet_of_same (HL.out _ _ _)))
              have hj2 : Hid (j' = scanDown (fun x => ltInt dk[lo]! x) dk i' j) := hid ((scanDown_end (fun x => ltInt dk[lo]! x) dk i' j' (.inl hle2)).symm.trans HD.out)
              clear HD
              have SQ := hid (SK.out.drewN nq)
              clear SK hc hf
              generalize wr.drewN nq = w3 at SQ ⊢
              clear nq
              obtain ⟨hc, hf⟩ := cellsU SQ.out RR.out hs0.out hk.out HG
              have SK := SQ
              clear SQ
              go_wp2
              go_ret
              have e := partEq_break ltInt lo i j dk hi2.out hj2.out (by omega)
              refine ⟨?_, ?_⟩
              · unfold partitionEqual
                rw [← HE.out, e]
                rfl
              · unfold partitionEqual
                rw [← HE.out, e]
                exact SK.out
      · go_wp2_with fail
        go_big_quiet (first | (go_at_call 54; refine Calls.quiet_of_same (HL.out _ _ _)))
        go_wp2
        have hi2 : Hid (i' = scanUp (fun x => !ltInt dk[lo]! x) dk j i) := hid ((scanUp_end (fun x => !ltInt dk[lo]! x) dk j i' (.inl hle)).symm.trans HU.out)
        clear HU
        have SQ := hid (SK.out.drewN nq)
        clear SK hc hf
        generalize wr.drewN nq = w2 at SQ ⊢
        clear nq
        obtain ⟨hc, hf⟩ := cellsU SQ.out RR.out hs0.out hk.out HG
        have SK := SQ
        clear SQ
        go_loopw [10] (fun vj wr => ∃ j' : Nat, vj = .int .i64 j' ∧ j' ≤ j ∧ i' ≤ j' + 1 ∧ Hid (SW enU w0 b o dk wr) ∧ Hid (scanDown (fun x => ltInt dk[lo]! x) dk i' j' = scanDown (fun x => ltInt dk[lo]! x) dk i' j)) (fun vj _ => (intOf vj).toNat)
        case atStart => exact ⟨j, rfl, Nat.le_refl _, hij', SK, hid rfl⟩
        case round =>
          clear SK hc hf
          obtain ⟨j', rfl, hjj, hij2, SK, HD⟩ := hrel
          obtain ⟨hc, hf⟩ := cellsU SK.out RR.out hs0.out hk.out HG
          by_cases hle2 : i' ≤ j'
          · exfalso; omega

          · go_wp2_with fail
            go_big_quiet (first | (go_at_call 54; refine Calls.quiet_of_same (HL.out _ _ _)))
            have hj2 : Hid (j' = scanDown (fun x => ltInt dk[lo]! x) dk i' j) := hid ((scanDown_end (fun x => ltInt dk[lo]! x) dk i' j' (.inl hle2)).symm.trans HD.out)
            clear HD
            have SQ := hid (SK.out.drewN nq)
            clear SK hc hf
            generalize wr.drewN nq = w3 at SQ ⊢
            clear nq
            obtain ⟨hc, hf⟩ := cellsU SQ.out RR.out hs0.out hk.out HG
            have SK := SQ
            clear SQ
            go_wp2
            go_ret
            have e := partEq_break ltInt lo i j dk hi2.out hj2.out (by omega)
            refine ⟨?_, ?_⟩
            · unfold partitionEqual
              rw [← HE.out, e]
              rfl
            · unfold partitionEqual
              rw [← HE.out, e]
              exact SK.out

set_option maxHeartbeats 16000000 in
set_option maxRecDepth 100000 in
theorem upart_any {w0 w : World} {b o c : Nat} {d0 d : Array Int} {lo hi pv : Nat} (R : RowU w0 b o d0) (hs : d.size = d0.size) (S : SW enU w0 b o d w) (h0 : lo ≤ pv) (h1 : pv < hi) (h2 : hi ≤ d.size) (hz : d.size < 4611686018427387904) :
    Calls Try.prog 56 #[.slice (some ⟨b, o, none⟩) d.size c, .int .i64 lo, .int .i64 hi, .int .i64 pv] w fun e w' => e = .returned (.tuple #[.int .i64 (partition ltInt d lo hi pv).1, .bool (partition ltInt d lo hi pv).2.1]) ∧ SW enU w0 b o (partition ltInt d lo hi pv).2.2 w' := by
  obtain ⟨N, hN⟩ : ∃ N, N = d.size := ⟨_, rfl⟩
  rw [← hN] at h2 hz ⊢
  have RR := hid R
  have S0 := hid S
  have hs0 : Hid (d0.size = N) := hid (by omega)
  have hdN : Hid (d.size = N) := hid hN.symm
  have HL := hid (fun V x y => uless_any x y V)
  clear R S hs hN
  obtain ⟨G0, HG0, hc, hf⟩ := fam S0.out RR.out hs0.out hdN.out
  have SX := hid (SWdrew (exch S0.out RR.out HG0 lo pv (by have := hdN.out; omega) (by have := hdN.out; omega)))
  obtain ⟨v0, hv0⟩ := cell?_setCell_some (w := w) (p := ⟨b, o + lo, none⟩) (x := .int .u32 (G0 pv)) (q := ⟨b, o + pv, none⟩) (hc pv (by omega))
  go_enter Try.func56, Try.ntmps56
  go_wp2
  go_region
  go_wp2
  clear hc hf hv0
  generalize ((w.setCell ⟨b, o + lo, none⟩ (.int .u32 (G0 pv))).setCell ⟨b, o + pv, none⟩ (.int .u32 (G0 lo))).drew = w1 at SX ⊢
  clear HG0
  have SK := SX
  clear SX
  obtain ⟨dk, hdk⟩ : ∃ dk, dk = swp d lo pv := ⟨_, rfl⟩
  rw [← hdk] at SK
  have hk : Hid (dk.size = N) := hid (by rw [hdk, size_swp]; exact hdN.out)
  have HDK := hid hdk
  clear hdk
  have e1 : ((lo : Int) + 1) = ((lo + 1 : Nat) : Int) := by omega
  have e2 : ((hi : Int) - 1) = ((hi - 1 : Nat) : Int) := by omega
  rw [e1, e2]
  clear e1 e2
  obtain ⟨i, hi'⟩ : ∃ i, i = lo + 1 := ⟨_, rfl⟩
  obtain ⟨j, hj'⟩ : ∃ j, j = hi - 1 := ⟨_, rfl⟩
  rw [← hi', ← hj']
  have hai : lo < i := by omega
  have hij : i ≤ j + 1 := by omega
  have hjb : j < hi := by omega
  have HI := hid hi'
  have HJ := hid hj'
  clear hi' hj'
  obtain ⟨G, HG, hc, hf⟩ := fam SK.out RR.out hs0.out hk.out
  go_loopw [10] (fun vi wr => ∃ i' : Nat, vi = .int .i64 i' ∧ i ≤ i' ∧ i' ≤ j + 1 ∧ Hid (SW enU w0 b o dk wr) ∧ Hid (scanUp (fun x => ltInt x dk[lo]!) dk j i' = scanUp (fun x => ltInt x dk[lo]!) dk j i)) (fun vi _ => j + 1 - (intOf vi).toNat)
  case atStart => exact ⟨i, rfl, Nat.le_refl _, hij, SK, hid rfl⟩
  case round =>
    clear SK hc hf
    obtain ⟨i', rfl, hii, hij', SK, HU⟩ := hrel
    obtain ⟨hc, hf⟩ := cellsU SK.out RR.out hs0.out hk.out HG
    by_cases hle : i' ≤ j
    · go_wp2_with fail
      go_big_quiet (first | (go_at_call 54; refine Calls.quiet_of_same (HL.out _ _ _)))
      go_wp2
      · have ht : ltInt (G i') (G lo) = true := by assumption
        go_roundw
        case rel => exact ⟨i' + 1, by go_num, by omega, by omega, hid (SK.out.drewN nq), hid ((scanUp_go (fun x => ltInt x dk[lo]!) dk j i' hle (by rw [← HG.out lo, ← HG.out i']; exact ht)).symm.trans HU.out)⟩
        case measure => simp [intOf]; omega
      · have ht : ltInt (G i') (G lo) = false := by assumption
        have hi2 : Hid (i' = scanUp (fun x => ltInt x dk[lo]!) dk j i) := hid ((scanUp_end (fun x => ltInt x dk[lo]!) dk j i' (.inr (by rw [← HG.out lo, ← HG.out i']; exact ht))).symm.trans HU.out)
        clear ht HU
        have SQ := hid (SK.out.drewN nq)
        clear SK hc hf
        generalize wr.drewN nq = w2 at SQ ⊢
        clear nq
        obtain ⟨hc, hf⟩ := cellsU SQ.out RR.out hs0.out hk.out HG
        have SK := SQ
        clear SQ
        go_loopw [11] (fun vj wr => ∃ j' : Nat, vj = .int .i64 j' ∧ j' ≤ j ∧ i' ≤ j' + 1 ∧ Hid (SW enU w0 b o dk wr) ∧ Hid (scanDown (fun x => !ltInt x dk[lo]!) dk i' j' = scanDown (fun x => !ltInt x dk[lo]!) dk i' j)) (fun vj _ => (intOf vj).toNat)
        case atStart => exact ⟨j, rfl, Nat.le_refl _, hij', SK, hid rfl⟩
        case round =>
          clear SK hc hf
          obtain ⟨j', rfl, hjj, hij2, SK, HD⟩ := hrel
          obtain ⟨hc, hf⟩ := cellsU SK.out RR.out hs0.out hk.out HG
          by_cases hle2 : i' ≤ j'

          · go_wp2_with fail
            go_big_quiet (first | (go_at_call 54; refine Calls.quiet_of_same (HL.out _ _ _)))
            go_wp2
            · have ht : (!ltInt (G j') (G lo)) = true := by assumption
              go_roundw
              case rel => exact ⟨j' - 1, by go_num, by omega, by omega, hid (SK.out.drewN nq), hid ((scanDown_go (fun x => !ltInt x dk[lo]!) dk i' j' hle2 (by omega) (by rw [← HG.out lo, ← HG.out j']; exact ht)).symm.trans HD.out)⟩
              case measure => simp [intOf]; omega
            · have ht : (!ltInt (G j') (G lo)) = false := by assumption
              have hj2 : Hid (j' = scanDown (fun x => !ltInt x dk[lo]!) dk i' j) := hid ((scanDown_end (fun x => !ltInt x dk[lo]!) dk i' j' (.inr (by rw [← HG.out lo, ← HG.out j']; exact ht))).symm.trans HD.out)
              clear ht HD
              have SQ := hid (SK.out.drewN nq)
              clear SK hc hf
              generalize wr.drewN nq = w3 at SQ ⊢
              clear nq
              obtain ⟨hc, hf⟩ := cellsU SQ.out RR.out hs0.out hk.out HG
              have SK := SQ
              clear SQ
              have hlt3 := part_scans_lt ltInt lo i j dk (by omega) hi2.out hj2.out hle2
              have SY := hid (SWdrew (exch SK.out RR.out HG i' j' (by have := hk.out; omega) (by have := hk.out; omega)))
              obtain ⟨v3, hv3⟩ := cell?_setCell_some (w := w3) (p := ⟨b, o + i', none⟩) (x := .int .u32 (G j')) (q := ⟨b, o + j', none⟩) (hc j' (by omega))
              have HF := hid (part_first_go ltInt d lo hi pv HI.out HJ.out HDK.out hi2.out hj2.out (by omega))
              have hk3 : Hid ((swp dk i' j').size = N) := hid (by rw [size_swp]; exact hk.out)
              obtain ⟨D, hD⟩ : ∃ D, D = swp dk i' j' := ⟨_, rfl⟩
              rw [← hD] at SY HF hk3
              clear hD hi2 hj2
              go_wp2
              go_region
              all_goals go_wp2
              all_goals clear hc hf hv3 SK
              go_loopw [10, 11] (fun vi vj wr => ∃ (i j : Nat) (dk : Array Int), vi = .int .i64 i ∧ vj = .int .i64 j ∧ lo < i ∧ i ≤ j + 1 ∧ j < hi ∧ Hid (dk.size = N) ∧ Hid (SW enU w0 b o dk wr) ∧ Hid (partLoop ltInt lo i j dk = partLoop ltInt lo (i' + 1) (j' - 1) D)) (fun vi vj _ => (intOf vj).toNat + 1 - (intOf vi).toNat)
              case atStart => exact ⟨i' + 1, j' - 1, D, by go_num, by go_num, by omega, by omega, by omega, hk3, SY, hid rfl⟩
              case round =>
                clear SY HG hk HDK HI HJ hk3
                obtain ⟨i, j, dk, rfl, rfl, hai, hij, hjb, hk, SK, HE⟩ := hrel
                obtain ⟨G, HG, hc, hf⟩ := fam SK.out RR.out hs0.out hk.out
                go_wp2
                go_loopw [10] (fun vi wr => ∃ i' : Nat, vi = .int .i64 i' ∧ i ≤ i' ∧ i' ≤ j + 1 ∧ Hid (SW enU w0 b o dk wr) ∧ Hid (scanUp (fun x => ltInt x dk[lo]!) dk j i' = scanUp (fun x => ltInt x dk[lo]!) dk j i)) (fun vi _ => j + 1 - (intOf vi).toNat)
                case atStart => exact ⟨i, rfl, Nat.le_refl _, hij, SK, hid rfl⟩
                case round =>
                  clear SK hc hf
                  obtain ⟨i', rfl, hii, hij', SK, HU⟩ := hrel
                  obtain ⟨hc, hf⟩ := cellsU SK.out RR.out hs0.out hk.out HG
                  by_cases hle : i' ≤ j
                  · go_wp2_with fail
                    go_big_quiet (first | (go_at_call 54; refine Calls.quiet_of_same (HL.out _ _ _)))
                    go_wp2
                    · have ht : ltInt (G i') (G lo) = true := by assumption
                      go_roundw
                      case rel => exact ⟨i' + 1, by go_num, by omega, by omega, hid (SK.out.drewN nq), hid ((scanUp_go (fun x => ltInt x dk[lo]!) dk j i' hle (by rw [← HG.out lo, ← HG.out i']; exact ht)).symm.trans HU.out)⟩
                      case measure => simp [intOf]; omega
                    · have ht : ltInt (G i') (G lo) = false := by assumption
                      have hi2 : Hid (i' = scanUp (fun x => ltInt x dk[lo]!) dk j i) := hid ((scanUp_end (fun x => ltInt x dk[lo]!) dk j i' (.inr (by rw [← HG.out lo, ← HG.out i']; exact ht))).symm.trans HU.out)
                      clear ht HU
                      have SQ := hid (SK.out.drewN nq)
                      clear SK hc hf
                      generalize wr.drewN nq = w2 at SQ ⊢
                      clear nq
                      obtain ⟨hc, hf⟩ := cellsU SQ.out RR.out hs0.out hk.out HG
                      have SK := SQ
                      clear SQ
                      go_loopw [11] (fun vj wr => ∃ j' : Nat, vj = .int .i64 j' ∧ j' ≤ j ∧ i' ≤ j' + 1 ∧ Hid (SW enU w0 b o dk wr) ∧ Hid (scanDown (fun x => !ltInt x dk[lo]!) dk i' j' = scanDown (fun x => !ltInt x dk[lo]!) dk i' j)) (fun vj _ => (intOf vj).toNat)
                      case atStart => exact ⟨j, rfl, Nat.le_refl _, hij', SK, hid rfl⟩
                      case round =>
                        clear SK hc hf
                        obtain ⟨j', rfl, hjj, hij2, SK, HD⟩ := hrel
                        obtain ⟨hc, hf⟩ := cellsU SK.out RR.out hs0.out hk.out HG
                        by_cases hle2 : i' ≤ j'

                        · go_wp2_with fail
                          go_big_quiet (first | (go_at_call 54; refine Calls.quiet_of_same (HL.out _ _ _)))
                          go_wp2
                          · have ht : (!ltInt (G j') (G lo)) = true := by assumption
                            go_roundw
                            case rel => exact ⟨j' - 1, by go_num, by omega, by omega, hid (SK.out.drewN nq), hid ((scanDown_go (fun x => !ltInt x dk[lo]!) dk i' j' hle2 (by omega) (by rw [← HG.out lo, ← HG.out j']; exact ht)).symm.trans HD.out)⟩
                            case measure => simp [intOf]; omega
                          · have ht : (!ltInt (G j') (G lo)) = false := by assumption
                            have hj2 : Hid (j' = scanDown (fun x => !ltInt x dk[lo]!) dk i' j) := hid ((scanDown_end (fun x => !ltInt x dk[lo]!) dk i' j' (.inr (by rw [← HG.out lo, ← HG.out j']; exact ht))).symm.trans HD.out)
                            clear ht HD
                            have SQ := hid (SK.out.drewN nq)
                            clear SK hc hf
                            generalize wr.drewN nq = w3 at SQ ⊢
                            clear nq
                            obtain ⟨hc, hf⟩ := cellsU SQ.out RR.out hs0.out hk.out HG
                            have SK := SQ
                            clear SQ
                            have hlt3 := part_scans_lt ltInt lo i j dk (by omega) hi2.out hj2.out hle2
                            have SY := hid (SWdrew (exch SK.out RR.out HG i' j' (by have := hk.out; omega) (by have := hk.out; omega)))
                            obtain ⟨v3, hv3⟩ := cell?_setCell_some (w := w3) (p := ⟨b, o + i', none⟩) (x := .int .u32 (G j')) (q := ⟨b, o + j', none⟩) (hc j' (by omega))
                            go_wp2
                            go_region
                            all_goals go_wp2
                            all_goals go_roundw
                            case rel => exact ⟨i' + 1, j' - 1, swp dk i' j', by go_num, by go_num, by omega, by omega, by omega, hid (by rw [size_swp]; exact hk.out), SY, hid (by rw [← HE.out]; exact (part_go ltInt lo i j dk hi2.out hj2.out (by omega)).symm)⟩
                            case measure => simp [intOf]; omega

                        · go_wp2_with fail
                          go_big_quiet (first | (go_at_call 54; refine Calls.quiet_of_same (HL.out _ _ _)))
                          have hj2 : Hid (j' = scanDown (fun x => !ltInt x dk[lo]!) dk i' j) := hid ((scanDown_end (fun x => !ltInt x dk[lo]!) dk i' j' (.inl hle2)).symm.trans HD.out)
                          clear HD
                          have SQ := hid (SK.out.drewN nq)
                          clear SK hc hf
                          generalize wr.drewN nq = w3 at SQ ⊢
                          clear nq
                          obtain ⟨hc, hf⟩ := cellsU SQ.out RR.out hs0.out hk.out HG
                          have SK := SQ
                          clear SQ
                          have SY := hid (SWdrew (exch SK.out RR.out HG j' lo (by have := hk.out; omega) (by have := hk.out; omega)))
                          obtain ⟨v3, hv3⟩ := cell?_setCell_some (w := w3) (p := ⟨b, o + j', none⟩) (x := .int .u32 (G lo)) (q := ⟨b, o + lo, none⟩) (hc lo (by omega))
                          have e := part_break ltInt lo i j dk hi2.out hj2.out (by omega)
                          rw [HE.out] at e
                          go_wp2
                          go_region
                          all_goals go_wp2
                          all_goals go_ret2
                          all_goals (rw [HF.out, e]; exact ⟨rfl, SY.out⟩)
                  · go_wp2_with fail
                    go_big_quiet (first | (go_at_call 54; refine Calls.quiet_of_same (HL.out _ _ _)))
                    go_wp2
                    have hi2 : Hid (i' = scanUp (fun x => ltInt x dk[lo]!) dk j i) := hid ((scanUp_end (fun x => ltInt x dk[lo]!) dk j i' (.inl hle)).symm.trans HU.out)
                    clear HU
                    have SQ := hid (SK.out.drewN nq)
                    clear SK hc hf
                    generalize wr.drewN nq = w2 at SQ ⊢
                    clear nq
                    obtain ⟨hc, hf⟩ := cellsU SQ.out RR.out hs0.out hk.out HG
                    have SK := SQ
                    clear SQ
                    go_loopw [11] (fun vj wr => ∃ j' : Nat, vj = .int .i64 j' ∧ j' ≤ j ∧ i' ≤ j' + 1 ∧ Hid (SW enU w0 b o dk wr) ∧ Hid (scanDown (fun x => !ltInt x dk[lo]!) dk i' j' = scanDown (fun x => !ltInt x dk[lo]!) dk i' j)) (fun vj _ => (intOf vj).toNat)
                    case atStart => exact ⟨j, rfl, Nat.le_refl _, hij', SK, hid rfl⟩
                    case round =>
                      clear SK hc hf
                      obtain ⟨j', rfl, hjj, hij2, SK, HD⟩ := hrel
                      obtain ⟨hc, hf⟩ := cellsU SK.out RR.out hs0.out hk.out HG
                      by_cases hle2 : i' ≤ j'
                      · exfalso; omega

                      · go_wp2_with fail
                        go_big_quiet (first | (go_at_call 54; refine Calls.quiet_of_same (HL.out _ _ _)))
                        have hj2 : Hid (j' = scanDown (fun x => !ltInt x dk[lo]!) dk i' j) := hid ((scanDown_end (fun x => !ltInt x dk[lo]!) dk i' j' (.inl hle2)).symm.trans HD.out)
                        clear HD
                        have SQ := hid (SK.out.drewN nq)
                        clear SK hc hf
                        generalize wr.drewN nq = w3 at SQ ⊢
                        clear nq
                        obtain ⟨hc, hf⟩ := cellsU SQ.out RR.out hs0.out hk.out HG
                        have SK := SQ
                        clear SQ
                        have SY := hid (SWdrew (exch SK.out RR.out HG j' lo (by have := hk.out; omega) (by have := hk.out; omega)))
                        obtain ⟨v3, hv3⟩ := cell?_setCell_some (w := w3) (p := ⟨b, o + j', none⟩) (x := .int .u32 (G lo)) (q := ⟨b, o + lo, none⟩) (hc lo (by omega))
                        have e := part_break ltInt lo i j dk hi2.out hj2.out (by omega)
                        rw [HE.out] at e
                        go_wp2
                        go_region
                        all_goals go_wp2
                        all_goals go_ret2
                        all_goals (rw [HF.out, e]; exact ⟨rfl, SY.out⟩)

          · go_wp2_with fail
            go_big_quiet (first | (go_at_call 54; refine Calls.quiet_of_same (HL.out _ _ _)))
            have hj2 : Hid (j' = scanDown (fun x => !ltInt x dk[lo]!) dk i' j) := hid ((scanDown_end (fun x => !ltInt x dk[lo]!) dk i' j' (.inl hle2)).symm.trans HD.out)
            clear HD
            have SQ := hid (SK.out.drewN nq)
            clear SK hc hf
            generalize wr.drewN nq = w3 at SQ ⊢
            clear nq
            obtain ⟨hc, hf⟩ := cellsU SQ.out RR.out hs0.out hk.out HG
            have SK := SQ
            clear SQ
            have SY := hid (SWdrew (exch SK.out RR.out HG j' lo (by have := hk.out; omega) (by have := hk.out; omega)))
            obtain ⟨v3, hv3⟩ := cell?_setCell_some (w := w3) (p := ⟨b, o + j', none⟩) (x := .int .u32 (G lo)) (q := ⟨b, o + lo, none⟩) (hc lo (by omega))
            have e := part_first_break ltInt d lo hi pv HI.out HJ.out HDK.out hi2.out hj2.out (by omega)
            go_wp2
            go_region
            all_goals go_wp2
            all_goals go_ret2
            all_goals (rw [e]; exact ⟨rfl, SY.out⟩)
    · go_wp2_with fail
      go_big_quiet (first | (go_at_call 54; refine Calls.quiet_of_same (HL.out _ _ _)))
      go_wp2
      have hi2 : Hid (i' = scanUp (fun x => ltInt x dk[lo]!) dk j i) := hid ((scanUp_end (fun x => ltInt x dk[lo]!) dk j i' (.inl hle)).symm.trans HU.out)
      clear HU
      have SQ := hid (SK.out.drewN nq)
      clear SK hc hf
      generalize wr.drewN nq = w2 at SQ ⊢
      clear nq
      obtain ⟨hc, hf⟩ := cellsU SQ.out RR.out hs0.out hk.out HG
      have SK := SQ
      clear SQ
      go_loopw [11] (fun vj wr => ∃ j' : Nat, vj = .int .i64 j' ∧ j' ≤ j ∧ i' ≤ j' + 1 ∧ Hid (SW enU w0 b o dk wr) ∧ Hid (scanDown (fun x => !ltInt x dk[lo]!) dk i' j' = scanDown (fun x => !ltInt x dk[lo]!) dk i' j)) (fun vj _ => (intOf vj).toNat)
      case atStart => exact ⟨j, rfl, Nat.le_refl _, hij', SK, hid rfl⟩
      case round =>
        clear SK hc hf
        obtain ⟨j', rfl, hjj, hij2, SK, HD⟩ := hrel
        obtain ⟨hc, hf⟩ := cellsU SK.out RR.out hs0.out hk.out HG
        by_cases hle2 : i' ≤ j'
        · exfalso; omega

        · go_wp2_with fail
          go_big_quiet (first | (go_at_call 54; refine Calls.quiet_of_same (HL.out _ _ _)))
          have hj2 : Hid (j' = scanDown (fun x => !ltInt x dk[lo]!) dk i' j) := hid ((scanDown_end (fun x => !ltInt x dk[lo]!) dk i' j' (.inl hle2)).symm.trans HD.out)
          clear HD
          have SQ := hid (SK.out.drewN nq)
          clear SK hc hf
          generalize wr.drewN nq = w3 at SQ ⊢
          clear nq
          obtain ⟨hc, hf⟩ := cellsU SQ.out RR.out hs0.out hk.out HG
          have SK := SQ
          clear SQ
          have SY := hid (SWdrew (exch SK.out RR.out HG j' lo (by have := hk.out; omega) (by have := hk.out; omega)))
          obtain ⟨v3, hv3⟩ := cell?_setCell_some (w := w3) (p := ⟨b, o + j', none⟩) (x := .int .u32 (G lo)) (q := ⟨b, o + lo, none⟩) (hc lo (by omega))
          have e := part_first_break ltInt d lo hi pv HI.out HJ.out HDK.out hi2.out hj2.out (by omega)
          go_wp2
          go_region
          all_goals go_wp2
          all_goals go_ret2
          all_goals (rw [e]; exact ⟨rfl, SY.out⟩)
end Go.Proofs.Ytablffjhipgfbaa
end

/- The library's plain sort at addresses: insertion in part (written by gensrtd.py). -/
section
namespace Go.Proofs.Ytablffjhipgfbaa
open Go.Shelf Go.RowKit Go.Lib Go.Sort

set_option maxHeartbeats 16000000 in
set_option maxRecDepth 100000 in
theorem upartial_any {w0 w : World} {b o c : Nat} {d0 d : Array Int} {lo hi : Nat} (R : RowU w0 b o d0) (hs : d.size = d0.size) (S : SW enU w0 b o d w) (h1 : lo < hi) (h2 : hi ≤ d.size) (hz : d.size < 4611686018427387904) :
    Calls Try.prog 53 #[.slice (some ⟨b, o, none⟩) d.size c, .int .i64 lo, .int .i64 hi] w fun e w' => e = .returned (.bool (partialInsertionSort ltInt d lo hi).2) ∧ SW enU w0 b o (partialInsertionSort ltInt d lo hi).1 w' := by
  obtain ⟨N, hN⟩ : ∃ N, N = d.size := ⟨_, rfl⟩
  rw [← hN] at h2 hz ⊢
  have RR := hid R
  have S0 := hid S
  have hs0 : Hid (d0.size = N) := hid (by omega)
  have hdN : Hid (d.size = N) := hid hN.symm
  have HL := hid (fun V x y => uless_any x y V)
  clear R S hs hN
  go_enter Try.func53, Try.ntmps53
  go_wp2
  go_loopw [7, 8] (fun vi vs wr => ∃ (i s : Nat) (dk : Array Int), vi = .int .i64 i ∧ vs = .int .i64 s ∧ s ≤ 5 ∧ lo < i ∧ i ≤ hi ∧ Hid (dk.size = N) ∧ Hid (SW enU w0 b o dk wr) ∧ Hid (partialIns ltInt lo hi (5 - s) i dk = partialIns ltInt lo hi 5 (lo + 1) d)) (fun _ vs _ => 5 - (intOf vs).toNat)
  case atStart => exact ⟨lo + 1, 0, d, by go_num, rfl, by omega, by omega, by omega, hdN, S0, hid rfl⟩
  case round =>
    obtain ⟨i, s, dk, rfl, rfl, hs5, hai, hib, hk, SK, HO⟩ := hrel
    by_cases hs : s < 5
    · go_wp2
      go_loopw [7] (fun vi wr => ∃ k : Nat, vi = .int .i64 k ∧ i ≤ k ∧ k ≤ hi ∧ Hid (SW enU w0 b o dk wr) ∧ Hid (scanSorted ltInt dk hi k = scanSorted ltInt dk hi i)) (fun vi _ => hi - (intOf vi).toNat)
      case atStart => exact ⟨i, rfl, Nat.le_refl _, hib, SK, hid rfl⟩
      case round =>
        clear SK
        obtain ⟨k, rfl, hik, hkh, SK, HS⟩ := hrel
        by_cases hkl : k < hi
        · obtain ⟨G, HG, hc, hf⟩ := fam SK.out RR.out hs0.out hk.out
          cases hl : ltInt (G k) (G (k - 1))
          · go_wp2_with fail
            go_big_quiet (first | (go_at_call 54; refine Calls.quiet_of_same (HL.out _ _ _)))
            have SQ := hid (SK.out.drewN nq)
            go_wp2
            go_roundw
            case rel => exact ⟨k + 1, by go_num, by omega, by omega, SQ, hid (by rw [← HS.out, scanSorted_go ltInt dk hi k hkl (by rw [← HG.out, ← HG.out]; exact hl)])⟩
            case measure => simp [intOf]; omega
          · have HK : Hid (scanSorted ltInt dk hi i = k) := hid (by rw [← HS.out, scanSorted_stop ltInt dk hi k (.inr (by rw [← HG.out, ← HG.out]; exact hl))])
            have hkz : ((k : Int) == (hi : Int)) = false := by simp; omega
            by_cases h50 : hi - lo < 50
            · have h50z : (hi : Int) - (lo : Int) < 50 := by omega
              go_wp2_with fail
              go_big_quiet (first | (go_at_call 54; refine Calls.quiet_of_same (HL.out _ _ _)))
              have SQ := hid (SK.out.drewN nq)
              go_wp2
              have hv : partialInsertionSort ltInt d lo hi = (dk, false) := by
                unfold partialInsertionSort
                rw [← HO.out, pi_short ltInt lo hi s i dk hs (by rw [HK.out]; omega) h50]
              go_ret
              rw [hv]
              exact ⟨rfl, SQ.out⟩
            · have h50z : ¬ ((hi : Int) - (lo : Int) < 50) := by omega
              go_wp2_with fail
              go_big_quiet (first | (go_at_call 54; refine Calls.quiet_of_same (HL.out _ _ _)))
              have SX := hid (exch (SK.out.drewN (nq + 1)) RR.out HG k (k - 1) (by have := hk.out; omega) (by have := hk.out; omega))
              have HP := hid (pi_go ltInt lo hi s i k dk hs HK.out (by omega) h50)
              have hD : Hid ((swp dk k (k - 1)).size = N) := hid (by rw [size_swp]; exact hk.out)
              obtain ⟨D, hDD⟩ : ∃ D, D = swp dk k (k - 1) := ⟨_, rfl⟩
              rw [← hDD] at SX HP hD
              clear hDD hl
              go_upto_region 11 with fail
              go_region
              clear hc hf SK HG
              generalize ((wr.drewN (nq + 1)).setCell ⟨b, o + k, none⟩ (.int .u32 (G (k - 1)))).setCell ⟨b, o + (k - 1), none⟩ (.int .u32 (G k)) = w4 at SX ⊢
              go_upto_if 61 with fail
              go_cut [] from 13 (fun wc => SW enU w0 b o (fixDown ltInt lo k D) wc ∧ Hid ((fixDown ltInt lo k D).size = N))
              case first =>
                by_cases hf1 : k - lo ≥ 2
                · have hf1z : (k : Int) - (lo : Int) ≥ 2 := by omega
                  have HF1 : Hid (fixDown ltInt lo k D = shiftDown ltInt (k - 1) D) := hid (by unfold fixDown; rw [if_pos hf1])
                  go_wp2
                  go_loopw [9] (fun vj wr => ∃ (j : Nat) (dj : Array Int), vj = .int .i64 j ∧ j ≤ k - 1 ∧ Hid (dj.size = N) ∧ Hid (SW enU w0 b o dj wr) ∧ Hid (shiftDown ltInt j dj = shiftDown ltInt (k - 1) D)) (fun vj _ => (intOf vj).toNat)
                  case atStart => exact ⟨k - 1, D, by go_num, Nat.le_refl _, hD, SX, hid rfl⟩
                  case round =>
                    obtain ⟨j, dj, rfl, hjb, hj, SJ, HJ⟩ := hrel
                    by_cases hjg : 1 ≤ j
                    · obtain ⟨G, HG, hc, hf⟩ := fam SJ.out RR.out hs0.out hj.out
                      have hjb' : j ≤ k - 1 := hjb
                      cases hl : ltInt (G j) (G (j - 1))
                      · go_wp2_with fail
                        go_big_quiet (first | (go_at_call 54; refine Calls.quiet_of_same (HL.out _ _ _)))
                        have SQ := hid (SJ.out.drewN nq)
                        go_wp2
                        have e := shiftDown_stop ltInt j dj (.inr (by rw [← HG.out, ← HG.out]; exact hl))
                        rw [HJ.out] at e
                        go_meet
                        case rel =>
                          rw [HF1.out, e]
                          exact ⟨SQ.out, hj⟩
                      · go_wp2_with fail
                        go_big_quiet (first | (go_at_call 54; refine Calls.quiet_of_same (HL.out _ _ _)))
                        have SQ := hid (SJ.out.drewN nq)
                        have SX := hid (SWdrew (exch SQ.out RR.out HG j (j - 1) (by have := hj.out; omega) (by have := hj.out; omega)))
                        have HLT := hid hl
                        clear hl
                        go_wp2
                        go_region
                        all_goals go_wp2
                        go_roundw
                        case rel => exact ⟨j - 1, swp dj j (j - 1), by first | go_num | (congr 1; omega), by omega, hid (by rw [size_swp]; exact hj.out), SX, hid (by rw [← HJ.out, shiftDown_go ltInt j dj hjg (by rw [← HG.out, ← HG.out]; exact HLT.out)])⟩
                        case measure => simp [intOf]; omega
                    · go_wp2
                      have e := shiftDown_stop ltInt j dj (.inl (by omega))
                      rw [HJ.out] at e
                      have SQ := SJ
                      go_meet
                      case rel =>
                        rw [HF1.out, e]
                        exact ⟨SQ.out, hj⟩
                · have hf1z : ¬ ((k : Int) - (lo : Int) ≥ 2) := by omega
                  have HF1 : Hid (fixDown ltInt lo k D = D) := hid (by unfold fixDown; rw [if_neg hf1])
                  go_wp2
                  go_meet
                  case rel =>
                    rw [HF1.out]
                    exact ⟨SX.out, hD⟩
              case rest =>
                obtain ⟨SE, hE⟩ := hcut
                have SE := hid SE
                obtain ⟨E, hEE⟩ : ∃ E, E = fixDown ltInt lo k D := ⟨_, rfl⟩
                rw [← hEE] at SE hE HP
                clear SX hD hEE
                by_cases hf2 : hi - k ≥ 2
                · have hf2z : (hi : Int) - (k : Int) ≥ 2 := by omega
                  have HF2 : Hid (fixUp ltInt hi k E = shiftUp ltInt hi (k + 1) E) := hid (by unfold fixUp; rw [if_pos hf2])
                  go_wp2
                  go_loopw [10] (fun vj wr => ∃ (j : Nat) (dj : Array Int), vj = .int .i64 j ∧ (k + 1 ≤ j ∧ j ≤ hi) ∧ Hid (dj.size = N) ∧ Hid (SW enU w0 b o dj wr) ∧ Hid (shiftUp ltInt hi j dj = shiftUp ltInt hi (k + 1) E)) (fun vj _ => hi - (intOf vj).toNat)
                  case atStart => exact ⟨k + 1, E, by go_num, ⟨Nat.le_refl _, by omega⟩, hE, SE, hid rfl⟩
                  case round =>
                    obtain ⟨j, dj, rfl, hjb, hj, SJ, HJ⟩ := hrel
                    by_cases hjg : j < hi
                    · obtain ⟨G, HG, hc, hf⟩ := fam SJ.out RR.out hs0.out hj.out
                      have hjb' : (k + 1 ≤ j ∧ j ≤ hi) := hjb
                      cases hl : ltInt (G j) (G (j - 1))
                      · go_wp2_with fail
                        go_big_quiet (first | (go_at_call 54; refine Calls.quiet_of_same (HL.out _ _ _)))
                        have SQ := hid (SJ.out.drewN nq)
                        go_wp2
                        have e := shiftUp_stop ltInt hi j dj (.inr (by rw [← HG.out, ← HG.out]; exact hl))
                        rw [HJ.out] at e
                        have HE := hid e
                        clear e
                        go_roundw
                        case rel => exact ⟨k, s + 1, dj, rfl, by go_num, by omega, by omega, by omega, hj, SQ, hid (by rw [← HO.out, HP.out, HF2.out, HE.out])⟩
                        case measure => simp [intOf]; omega
                      · go_wp2_with fail
                        go_big_quiet (first | (go_at_call 54; refine Calls.quiet_of_same (HL.out _ _ _)))
                        have SQ := hid (SJ.out.drewN nq)
                        have SX := hid (SWdrew (exch SQ.out RR.out HG j (j - 1) (by have := hj.out; omega) (by have := hj.out; omega)))
                        have HLT := hid hl
                        clear hl
                        go_wp2
                        go_region
                        all_goals go_wp2
                        go_roundw
                        case rel => exact ⟨j + 1, swp dj j (j - 1), by first | go_num | (congr 1; omega), by omega, hid (by rw [size_swp]; exact hj.out), SX, hid (by rw [← HJ.out, shiftUp_go ltInt hi j dj hjg (by rw [← HG.out, ← HG.out]; exact HLT.out)])⟩
                        case measure => simp [intOf]; omega
                    · go_wp2
                      have e := shiftUp_stop ltInt hi j dj (.inl (by omega))
                      rw [HJ.out] at e
                      have SQ := SJ
                      have HE := hid e
                      clear e
                      go_roundw
                      case rel => exact ⟨k, s + 1, dj, rfl, by go_num, by omega, by omega, by omega, hj, SQ, hid (by rw [← HO.out, HP.out, HF2.out, HE.out])⟩
                      case measure => simp [intOf]; omega
                · have hf2z : ¬ ((hi : Int) - (k : Int) ≥ 2) := by omega
                  have HF2 : Hid (fixUp ltInt hi k E = E) := hid (by unfold fixUp; rw [if_neg hf2])
                  go_wp2
                  go_roundw
                  case rel => exact ⟨k, s + 1, E, rfl, by go_num, by omega, by omega, by omega, hE, SE, hid (by rw [← HO.out, HP.out, HF2.out])⟩
                  case measure => simp [intOf]; omega
        · have HK : Hid (scanSorted ltInt dk hi i = hi) := hid (by rw [← HS.out, scanSorted_stop ltInt dk hi k (.inl hkl)]; omega)
          have hkz : k = hi := by omega
          subst hkz
          obtain ⟨G, HG, hc, hf⟩ := fam SK.out RR.out hs0.out hk.out
          go_wp2_with fail
          go_big_quiet (first | (go_at_call 54; refine Calls.quiet_of_same (HL.out _ _ _)))
          have SQ := hid (SK.out.drewN nq)
          go_wp2
          have hv : partialInsertionSort ltInt d lo k = (dk, true) := by
            unfold partialInsertionSort
            rw [← HO.out, pi_true ltInt lo k s i dk hs HK.out]
          go_ret
          rw [hv]
          exact ⟨rfl, SQ.out⟩
    · have h5 : s = 5 := by omega
      subst h5
      go_wp2
      have hv : partialInsertionSort ltInt d lo hi = (dk, false) := by
        unfold partialInsertionSort
        rw [← HO.out]
        rfl
      go_ret
      rw [hv]
      exact ⟨rfl, SK.out⟩
end Go.Proofs.Ytablffjhipgfbaa
end
