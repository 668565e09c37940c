/- The library's plain sort at addresses: some places are exchanged by chance. -/
import Derived.Sort.Walk7
import Derived.Test.YtiapmnedbjmmhaaSrtB
import Derived.Test.YtiapmnedbjmmhaaShelfX
namespace Go.Proofs.Ytiapmnedbjmmhaa
open Go.Shelf Go.RowKit Go.Lib Go.Sort

/-- The row holds d, and block g, made since, the number X. -/
structure RndU (w0 : World) (b o : Nat) (d : Array Int) (g X : Nat) (W : World) : Prop where
  sw : SW enU w0 b o d W
  cell : W.cell? ⟨g, 0, none⟩ = some (.int .u64 X)
  free : W.frozen? ⟨g, 0, none⟩ = false
  new : w0.heap.size ≤ g
  lt : g < W.heap.size
section
variable {w0 W : World} {b o g X : Nat} {d0 d : Array Int}
theorem RndU.drewN (h : RndU w0 b o d g X W) (q : Nat) : RndU w0 b o d g X (W.drewN q) := ⟨h.sw.drewN q, h.cell, h.free, h.new, h.lt⟩
theorem RndU.put (h : RndU w0 b o d g X W) (t : Nat) : RndU w0 b o d g t (W.setCell ⟨g, 0, none⟩ (.int .u64 t)) :=
  ⟨h.sw.setCell_new g 0 _ h.new, World.cell?_setCell_same' _ _ _ (by rw [h.cell]; rfl), by rw [World.frozen?_setCell]; exact h.free, h.new, by simpa using h.lt⟩
theorem RndU.start (h : SW enU w0 b o d W) (T : TypeId) (t : Nat) : RndU w0 b o d W.heap.size t (W.alloc (.cells #[.int .u64 t] T)) := ⟨h.alloc _, by simp, by simp, h.le, by simp⟩
theorem RndU.exch {G : Nat → Int} (h : RndU w0 b o d g X W) (R : RowU w0 b o d0) (HG : Hid (∀ t, G t = d[t]!)) (i j : Nat) (hi : i < d.size) (hj : j < d.size) :
    RndU w0 b o (swp d i j) g X ((W.setCell ⟨b, o + i, none⟩ (.int .u32 (G j))).setCell ⟨b, o + j, none⟩ (.int .u32 (G i))) := by
  have hne : g ≠ b := by
    have := h.new
    have := R.low
    omega
  refine ⟨Ytiapmnedbjmmhaa.exch h.sw R HG i j hi hj, ?_, by rw [World.frozen?_setCell, World.frozen?_setCell]; exact h.free, h.new, by simpa using h.lt⟩
  rw [World.cell?_setCell_other _ _ _ _ (by intro e; simp only [Addr.mk.injEq] at e; exact hne e.1.symm), World.cell?_setCell_other _ _ _ _ (by intro e; simp only [Addr.mk.injEq] at e; exact hne e.1.symm)]
  exact h.cell
end

set_option maxHeartbeats 8000000 in
set_option maxRecDepth 100000 in
theorem ubreak_any {w0 w : World} {b o c : Nat} {d0 d : Array Int} {lo L : Nat} (R : RowU w0 b o d0) (hs : d.size = d0.size) (S : SW enU w0 b o d w) (h8 : 8 ≤ L) (h2 : lo + L ≤ d.size) (hz : d.size < 4611686018427387904) :
    Calls Try.prog 36 #[.slice (some ⟨b, o, none⟩) d.size c, .int .i64 lo, .int .i64 ((lo + L : Nat) : Int)] w fun e w' => e = .returned (.tuple #[]) ∧ SW enU w0 b o (breakPatterns d lo (lo + L)) w' := by
  rw [breakPatterns_eq d lo L h8]
  obtain ⟨M, hM⟩ : ∃ M : Nat, M = 1 <<< bitsLen L := ⟨_, rfl⟩
  have hM1 : 1 ≤ M := by rw [hM, Nat.one_shiftLeft]; exact Nat.two_pow_pos _
  have hM2 : M ≤ 2 * L := by rw [hM, Nat.one_shiftLeft]; exact two_pow_bitsLen_le (by omega)
  have hNP := hid (fun V => AnyF.nextPowerOfTwo Try.layPow L (by omega) V)
  rw [← hM] at hNP ⊢
  clear hM
  obtain ⟨N, hN⟩ : ∃ N, N = d.size := ⟨_, rfl⟩
  rw [← hN] at h2 hz ⊢
  have RR := hid R
  have hs0 : Hid (d0.size = N) := hid (by omega)
  have hdN : Hid (d.size = N) := hid hN.symm
  have S1 := hid (RndU.start S 72 L)
  have eU : (UInt64.ofNat L).toNat = L := by simp; omega
  have HU := hid eU
  clear R hs hN S eU
  obtain ⟨g, hg⟩ : ∃ g, g = w.heap.size := ⟨_, rfl⟩
  rw [← hg] at S1
  obtain ⟨wa, hwa⟩ : ∃ wa, wa = w.alloc (.cells #[.int .u64 (L : Int)] 72) := ⟨_, rfl⟩
  rw [← hwa] at S1
  have HWA := hid hwa
  have HGG := hid hg
  clear hwa hg
  have HX := hid (fun (V : World) (X : Nat) (hX : X < 18446744073709551616) (h1 : V.cell? ⟨g, 0, none⟩ = some (.int .u64 X)) (h2 : V.frozen? ⟨g, 0, none⟩ = false) => AnyF.xorshift_Next Try.layNext g 0 X hX V h1 h2)
  have eL : ((lo : Int) + (L : Int) - (lo : Int)) = (L : Int) := by omega
  go_enter Try.func36, Try.ntmps36
  go_wp2_with fail
  rw [← HWA.out, ← HGG.out]
  refine (hNP.out _).mono ?_
  rintro e w1 ⟨rfl, hw1⟩
  rw [hw1]
  clear hw1
  go_wp2_with fail
  go_loopw [9] (fun vi wr => ∃ (t : Nat) (r : UInt64) (dk : Array Int), vi = .int .i64 ((lo + L / 4 * 2 - 1 + t : Nat) : Int) ∧ t ≤ 3 ∧ Hid (dk.size = N) ∧ Hid (RndU w0 b o dk g r.toNat wr) ∧ Hid (bpRest lo L M (lo + L / 4 * 2 - 1) (3 - t) t (r, dk) = bpRest lo L M (lo + L / 4 * 2 - 1) 3 0 (UInt64.ofNat L, d))) (fun vi _ => lo + L / 4 * 2 + 3 - (intOf vi).toNat)
  case atStart => exact ⟨0, UInt64.ofNat L, d, by congr 1; omega, by omega, hdN, hid (by rw [HU.out]; exact S1.out), hid rfl⟩
  case round =>
    clear S1
    obtain ⟨t, r, dk, rfl, ht, hk, SK, HR⟩ := hrel
    by_cases h3 : t < 3
    · obtain ⟨X', hX'⟩ : ∃ X' : Nat, X' = xorNextN r.toNat := ⟨_, rfl⟩
      have lX' : X' < 18446744073709551616 := by rw [hX']; exact xorNextN_lt _ r.toNat_lt
      obtain ⟨O, hO⟩ : ∃ O : Nat, O = X' &&& (M - 1) := ⟨_, rfl⟩
      have lO : O ≤ M - 1 := by rw [hO]; exact Nat.and_le_right
      have eAnd : bits .and .u64 (X' : Int) ((M : Int) - 1) = (O : Int) := by
        rw [show ((M : Int) - 1) = ((M - 1 : Nat) : Int) by omega, bits_and_u64_nat _ _ lX' (by omega), hO]
      have hN := HX.out wr r.toNat r.toNat_lt SK.out.cell SK.out.free
      rw [← hX'] at hN
      have HN : Hid (X' = (xorNext r).toNat ∧ O = (xorNext r).toNat &&& (M - 1)) := hid (by
        have e : X' = (xorNext r).toNat := by rw [hX', xorNext_toNat]
        exact ⟨e, by rw [hO, e]⟩)
      have HXT := hid hN
      clear hX' hO hN
      go_wp2_with fail
      refine HXT.out.mono ?_
      rintro e w2 ⟨rfl, hw2⟩
      have SX : Hid (RndU w0 b o dk g (xorNext r).toNat w2) := hid (by
        rw [hw2, ← HN.out.1]
        exact (SK.out.put X').drewN 3)
      clear hw2 SK HXT
      obtain ⟨G, HG, hc, hf⟩ := fam SX.out.sw RR.out hs0.out hk.out
      by_cases hLO : L ≤ O
      · have hLz : (L : Int) ≤ (O : Int) := by omega
        by_cases hEq : lo + L / 4 * 2 - 1 + t = lo + (O - L)
        all_goals
          go_wp2_with fail
          go_region
          all_goals go_wp2
          go_roundw
          case rel => exact ⟨t + 1, xorNext r, swp dk (lo + L / 4 * 2 - 1 + t) (lo + (O - L)), by first | rfl | (congr 1 <;> omega), by omega, hid (by rw [size_swp]; exact hk.out), hid (by (try rw [hEq]); (try rw [← hEq]); exact (SX.out.exch RR.out HG _ _ (by have := hk.out; omega) (by have := hk.out; omega)).drewN 1), hid (by rw [← HR.out, bp_step lo L M _ t r dk ((O - L)) (by omega) (by rw [← HN.out.2, if_pos (by omega)])])⟩
          case measure => simp [intOf]; omega
      · have hLz : ¬ ((L : Int) ≤ (O : Int)) := by omega
        by_cases hEq : lo + L / 4 * 2 - 1 + t = lo + O
        all_goals
          go_wp2_with fail
          go_region
          all_goals go_wp2
          go_roundw
          case rel => exact ⟨t + 1, xorNext r, swp dk (lo + L / 4 * 2 - 1 + t) (lo + O), by first | rfl | (congr 1 <;> omega), by omega, hid (by rw [size_swp]; exact hk.out), hid (by (try rw [hEq]); (try rw [← hEq]); exact (SX.out.exch RR.out HG _ _ (by have := hk.out; omega) (by have := hk.out; omega)).drewN 1), hid (by rw [← HR.out, bp_step lo L M _ t r dk (O) (by omega) (by rw [← HN.out.2, if_neg (by omega)])])⟩
          case measure => simp [intOf]; omega
    · obtain rfl : t = 3 := by omega
      go_wp2
      go_end0
      exact ⟨rfl, by rw [← HR.out]; exact SK.out.sw⟩
end Go.Proofs.Ytiapmnedbjmmhaa
