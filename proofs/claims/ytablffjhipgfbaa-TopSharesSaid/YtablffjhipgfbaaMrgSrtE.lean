/- Joined texts: SrtE, SrtF, SrtG, SrtH. -/
import Derived.Sort.LotD4
import Derived.Test.YtablffjhipgfbaaMrgSrtM
import Derived.Sort.Walk7
import Derived.Test.YtablffjhipgfbaaShelfX
import Derived.Sort.LotB
import Derived.Sort.LotD3
import Derived.Test.YtablffjhipgfbaaMrgSrtC
import Derived.Test.YtablffjhipgfbaaMrgPooL

/- The library's plain sort at addresses: which place is chosen to part a row at; how many exchanges that would have been. -/
section
namespace Go.Proofs.Ytablffjhipgfbaa
open Go.Shelf Go.RowKit Go.Lib Go.Sort

/-- The row holds d, and block g, made since, the number s. -/
structure CntU (w0 : World) (b o : Nat) (d : Array Int) (g s : Nat) (W : World) : Prop where
  sw : SW enU w0 b o d W
  cell : W.cell? ⟨g, 0, none⟩ = some (.int .i64 s)
  free : W.frozen? ⟨g, 0, none⟩ = false
  new : w0.heap.size ≤ g
  lt : g < W.heap.size
section
variable {w0 W : World} {b o g s : Nat} {d0 d : Array Int}
theorem CntU.drewN (h : CntU w0 b o d g s W) (q : Nat) : CntU w0 b o d g s (W.drewN q) := ⟨h.sw.drewN q, h.cell, h.free, h.new, h.lt⟩
theorem CntU.bump (h : CntU w0 b o d g s W) (t : Nat) : CntU w0 b o d g t (W.setCell ⟨g, 0, none⟩ (.int .i64 t)) :=
  ⟨h.sw.setCell_new g 0 _ h.new, World.cell?_setCell_same' _ _ _ (by rw [h.cell]; rfl), by rw [World.frozen?_setCell]; exact h.free, h.new, by simpa using h.lt⟩
theorem CntU.start (h : SW enU w0 b o d W) (T : TypeId) : CntU w0 b o d W.heap.size 0 (W.alloc (.cells #[.int .i64 0] T)) := ⟨h.alloc _, by simp, by simp, h.le, by simp⟩
end

theorem order_lt (d : Array Int) {x y n : Nat} (s : Nat) (hx : x < n) (hy : y < n) : (order2 ltInt d x y s).1 < n ∧ (order2 ltInt d x y s).2.1 < n := by
  rcases order2_mem ltInt d x y s with h | h <;> (rw [h.1, h.2]; exact ⟨by assumption, by assumption⟩)

set_option maxHeartbeats 4000000 in
set_option maxRecDepth 100000 in
theorem uorder_any {w0 w : World} {b o c g s : Nat} {d0 d : Array Int} {x y : Nat} (R : RowU w0 b o d0) (hs : d.size = d0.size) (C : CntU w0 b o d g s w) (h1 : x < d.size) (h2 : y < d.size) (hs2 : s < 1000) :
    Calls Try.prog 88 #[.slice (some ⟨b, o, none⟩) d.size c, .int .i64 x, .int .i64 y, .pointer (some ⟨g, 0, none⟩)] w fun e w' => e = .returned (.tuple #[.int .i64 (order2 ltInt d x y s).1, .int .i64 (order2 ltInt d x y s).2.1]) ∧ CntU w0 b o d g (order2 ltInt d x y s).2.2 w' := by
  obtain ⟨N, hN⟩ : ∃ N, N = d.size := ⟨_, rfl⟩
  rw [← hN] at h1 h2 ⊢
  have hs0 : Hid (d0.size = N) := hid (by omega)
  have hk : Hid (d.size = N) := hid hN.symm
  have HL := hid (fun V x y => uless_any x y V)
  obtain ⟨G, HG, hc, hf⟩ := fam C.sw R hs0.out hk.out
  have CC := hid C
  clear R hs hN C
  go_enter Try.func88, Try.ntmps88
  have cc := CC.out.cell
  have cf := CC.out.free
  have ew : IntKind.i64.wrap ((s : Int) + 1) = ((s + 1 : Nat) : Int) := by rw [IntKind.wrap_i64]; omega
  go_wp2_with fail
  go_quiet (first | (go_at_call 54; refine Calls.quiet_of_same (HL.out _ _ _)))
  have CQ := hid (CC.out.drewN nq)
  go_wp2
  · have hl : ltInt (G y) (G x) = true := by assumption
    have e : order2 ltInt d x y s = (y, x, s + 1) := by
      unfold order2
      rw [← HG.out, ← HG.out, hl]
      rfl
    go_ret2
    rw [e]
    exact ⟨rfl, CQ.out.bump (s + 1)⟩
  · have hl : ltInt (G y) (G x) = false := by assumption
    have e : order2 ltInt d x y s = (x, y, s) := by
      unfold order2
      rw [← HG.out, ← HG.out, hl]
      rfl
    go_ret2
    rw [e]
    exact ⟨rfl, CQ.out⟩

set_option maxHeartbeats 4000000 in
set_option maxRecDepth 100000 in
theorem umedian_any {w0 w : World} {b o c g s : Nat} {d0 d : Array Int} {x y z : Nat} (R : RowU w0 b o d0) (hs : d.size = d0.size) (C : CntU w0 b o d g s w) (h1 : x < d.size) (h2 : y < d.size) (h3 : z < d.size) (hs2 : s < 500) :
    Calls Try.prog 69 #[.slice (some ⟨b, o, none⟩) d.size c, .int .i64 x, .int .i64 y, .int .i64 z, .pointer (some ⟨g, 0, none⟩)] w fun e w' => e = .returned (.int .i64 (median ltInt d x y z s).1) ∧ CntU w0 b o d g (median ltInt d x y z s).2 w' := by
  have k1 := order2_count ltInt d x y s
  obtain ⟨l1, m1⟩ := order_lt d s h1 h2
  have c1 := uorder_any (c := c) R hs C h1 h2 (by omega)
  obtain ⟨x1, y1, s1, e1⟩ : ∃ x1 y1 s1, order2 ltInt d x y s = (x1, y1, s1) := ⟨_, _, _, rfl⟩
  rw [e1] at k1 l1 m1 c1
  simp only [] at k1 l1 m1 c1
  have k2 := order2_count ltInt d y1 z s1
  obtain ⟨l2, m2⟩ := order_lt d s1 m1 h3
  have c2 := fun (V : World) (CV : CntU w0 b o d g s1 V) => uorder_any (c := c) R hs CV m1 h3 (by omega)
  obtain ⟨y2, z2, s2, e2⟩ : ∃ y2 z2 s2, order2 ltInt d y1 z s1 = (y2, z2, s2) := ⟨_, _, _, rfl⟩
  rw [e2] at k2 l2 m2 c2
  simp only [] at k2 l2 m2 c2
  have c3 := fun (V : World) (CV : CntU w0 b o d g s2 V) => uorder_any (c := c) R hs CV l1 l2 (by omega)
  obtain ⟨x3, y3, s3, e3⟩ : ∃ x3 y3 s3, order2 ltInt d x1 y2 s2 = (x3, y3, s3) := ⟨_, _, _, rfl⟩
  rw [e3] at c3
  simp only [] at c3
  have e : median ltInt d x y z s = (y3, s3) := by
    unfold median
    simp only [e1, e2, e3]
  rw [e]
  have H1 := hid c1
  have H2 := hid c2
  have H3 := hid c3
  clear c1 c2 c3 R hs C k1 k2 l1 m1 l2 m2 e e1 e2 e3 h1 h2 h3
  go_enter Try.func69, Try.ntmps69
  go_wp2_with fail
  refine H1.out.mono ?_
  rintro e w1 ⟨rfl, h1⟩
  go_wp2_with fail
  refine (H2.out _ h1).mono ?_
  rintro e w2 ⟨rfl, h2⟩
  go_wp2_with fail
  refine (H3.out _ h2).mono ?_
  rintro e w3 ⟨rfl, h3⟩
  go_wp2
  go_ret
  exact ⟨rfl, h3⟩

set_option maxHeartbeats 4000000 in
set_option maxRecDepth 100000 in
theorem umedadj_any {w0 w : World} {b o c g s : Nat} {d0 d : Array Int} {x : Nat} (R : RowU w0 b o d0) (hs : d.size = d0.size) (C : CntU w0 b o d g s w) (h1 : 1 ≤ x) (h2 : x + 1 < d.size) (hz : d.size < 4611686018427387904) (hs2 : s < 500) :
    Calls Try.prog 68 #[.slice (some ⟨b, o, none⟩) d.size c, .int .i64 x, .pointer (some ⟨g, 0, none⟩)] w fun e w' => e = .returned (.int .i64 (medianAdjacent ltInt d x s).1) ∧ CntU w0 b o d g (medianAdjacent ltInt d x s).2 w' := by
  have c1 := umedian_any (c := c) (x := x - 1) (y := x) (z := x + 1) R hs C (by omega) (by omega) h2 hs2
  have e1 : ((x - 1 : Nat) : Int) = (x : Int) - 1 := by omega
  have e2 : ((x + 1 : Nat) : Int) = (x : Int) + 1 := by omega
  rw [e1, e2] at c1
  have H1 := hid c1
  clear c1 R hs C e1 e2
  go_enter Try.func68, Try.ntmps68
  go_wp2_with fail
  refine H1.out.mono ?_
  rintro e w1 ⟨rfl, h1⟩
  go_wp2
  go_ret
  exact ⟨rfl, h1⟩

set_option maxHeartbeats 8000000 in
set_option maxRecDepth 100000 in
theorem upivot_any {w0 w : World} {b o c : Nat} {d0 d : Array Int} {lo hi : Nat} (R : RowU w0 b o d0) (hs : d.size = d0.size) (S : SW enU w0 b o d w) (h1 : lo < hi) (h2 : hi ≤ d.size) (hz : d.size < 4611686018427387904) :
    Calls Try.prog 51 #[.slice (some ⟨b, o, none⟩) d.size c, .int .i64 lo, .int .i64 hi] w fun e w' => e = .returned (.tuple #[.int .i64 (choosePivot ltInt d lo hi).1, .int .i64 (hintCode (choosePivot ltInt d lo hi).2)]) ∧ SW enU w0 b o d w' := by
  have C0 := hid (CntU.start S 3)
  obtain ⟨wa, hwa⟩ : ∃ wa, wa = w.alloc (.cells #[.int .i64 0] 3) := ⟨_, rfl⟩
  rw [← hwa] at C0
  have HWA := hid hwa
  clear hwa
  have MA := hid (fun (V : World) (x s : Nat) (CV : CntU w0 b o d w.heap.size s V) (e1 : 1 ≤ x) (e2 : x + 1 < d.size) (e3 : s < 500) => umedadj_any (c := c) R hs CV e1 e2 hz e3)
  have MD := hid (fun (V : World) (x y z s : Nat) (CV : CntU w0 b o d w.heap.size s V) (e1 : x < d.size) (e2 : y < d.size) (e4 : z < d.size) (e3 : s < 500) => umedian_any (c := c) R hs CV e1 e2 e4 e3)
  rw [choosePivot_eq]
  obtain ⟨N, hN⟩ : ∃ N, N = d.size := ⟨_, rfl⟩
  rw [← hN] at h2 hz MA MD ⊢
  obtain ⟨I, hI⟩ : ∃ I : Nat, I = lo + (hi - lo) / 4 * 1 := ⟨_, rfl⟩
  obtain ⟨J, hJ⟩ : ∃ J : Nat, J = lo + (hi - lo) / 4 * 2 := ⟨_, rfl⟩
  obtain ⟨K, hK⟩ : ∃ K : Nat, K = lo + (hi - lo) / 4 * 3 := ⟨_, rfl⟩
  have eI : ((lo : Int) + ((hi : Int) - (lo : Int)) / 4) = (I : Int) := by omega
  have eJ : ((lo : Int) + ((hi : Int) - (lo : Int)) / 4 * 2) = (J : Int) := by omega
  have eK : ((lo : Int) + ((hi : Int) - (lo : Int)) / 4 * 3) = (K : Int) := by omega
  clear R hs S hN
  by_cases h8 : hi - lo ≥ 8
  · have h8z : (hi : Int) - (lo : Int) ≥ 8 := by omega
    by_cases h50 : hi - lo ≥ 50
    · have h50z : (hi : Int) - (lo : Int) ≥ 50 := by omega
      obtain ⟨i1, s1, e1⟩ : ∃ i1 s1, medianAdjacent ltInt d I 0 = (i1, s1) := ⟨_, _, rfl⟩
      obtain ⟨j1, s2, e2⟩ : ∃ j1 s2, medianAdjacent ltInt d J s1 = (j1, s2) := ⟨_, _, rfl⟩
      obtain ⟨k1, s3, e3⟩ : ∃ k1 s3, medianAdjacent ltInt d K s2 = (k1, s3) := ⟨_, _, rfl⟩
      obtain ⟨p, s4, e4⟩ : ∃ p s4, median ltInt d i1 j1 k1 s3 = (p, s4) := ⟨_, _, rfl⟩
      have hraw : rawPivot ltInt d lo hi = (p, s4) := by simp only [rawPivot, if_pos h8, if_pos h50, ← hI, ← hJ, ← hK, e1, e2, e3, e4]
      rw [hraw]
      have m1 := medianAdjacent_mem ltInt d I 0
      have m2 := medianAdjacent_mem ltInt d J s1
      have m3 := medianAdjacent_mem ltInt d K s2
      have n1 := medianAdjacent_count ltInt d I 0
      have n2 := medianAdjacent_count ltInt d J s1
      have n3 := medianAdjacent_count ltInt d K s2
      rw [e1] at m1 n1
      rw [e2] at m2 n2
      rw [e3] at m3 n3
      simp only [] at m1 m2 m3 n1 n2 n3
      have c1 := fun V CV => MA.out V I 0 CV (by omega) (by omega) (by omega)
      have c2 := fun V CV => MA.out V J s1 CV (by omega) (by omega) (by omega)
      have c3 := fun V CV => MA.out V K s2 CV (by omega) (by omega) (by omega)
      have c4 := fun V CV => MD.out V i1 j1 k1 s3 CV (by omega) (by omega) (by omega) (by omega)
      rw [e1] at c1
      rw [e2] at c2
      rw [e3] at c3
      rw [e4] at c4
      simp only [] at c1 c2 c3 c4
      have H1 := hid c1
      have H2 := hid c2
      have H3 := hid c3
      have H4 := hid c4
      clear c1 c2 c3 c4 MA MD hraw e1 e2 e3 e4 m1 m2 m3 n1 n2 n3 hI hJ hK
      go_enter Try.func51, Try.ntmps51
      go_wp2_with fail
      rw [← HWA.out]
      refine (H1.out _ C0.out).mono ?_
      rintro e w1 ⟨rfl, k1⟩
      go_wp2_with fail
      refine (H2.out _ k1).mono ?_
      rintro e w2 ⟨rfl, k2⟩
      go_wp2_with fail
      refine (H3.out _ k2).mono ?_
      rintro e w3 ⟨rfl, k3⟩
      go_wp2_with fail
      refine (H4.out _ k3).mono ?_
      rintro e w4 ⟨rfl, k4⟩
      have cc := k4.cell
      by_cases z0 : s4 = 0
      · have z0z : (((s4 : Nat) : Int) == 0) = true := by simp; omega
        go_wp2
        go_ret2
        exact ⟨by rw [z0]; rfl, k4.sw⟩
      · have z0z : (((s4 : Nat) : Int) == 0) = false := by simp; omega
        by_cases z1 : s4 = 12
        · have z1z : (((s4 : Nat) : Int) == 12) = true := by simp; omega
          go_wp2
          go_ret2
          exact ⟨by rw [z1]; rfl, k4.sw⟩
        · have z1z : (((s4 : Nat) : Int) == 12) = false := by simp; omega
          have eh : hintOf s4 = .unknown := by unfold hintOf; rw [if_neg z0, if_neg z1]
          go_wp2
          go_ret2
          exact ⟨by rw [eh]; rfl, k4.sw⟩
    · have h50z : ¬ ((hi : Int) - (lo : Int) ≥ 50) := by omega
      obtain ⟨p, s4, e4⟩ : ∃ p s4, median ltInt d I J K 0 = (p, s4) := ⟨_, _, rfl⟩
      have hraw : rawPivot ltInt d lo hi = (p, s4) := by simp only [rawPivot, if_pos h8, if_neg h50, ← hI, ← hJ, ← hK, e4]
      rw [hraw]
      have c4 := fun V CV => MD.out V I J K 0 CV (by omega) (by omega) (by omega) (by omega)
      rw [e4] at c4
      simp only [] at c4
      have H4 := hid c4
      clear c4 MA MD hraw e4 hI hJ hK
      go_enter Try.func51, Try.ntmps51
      go_wp2_with fail
      rw [← HWA.out]
      refine (H4.out _ C0.out).mono ?_
      rintro e w4 ⟨rfl, k4⟩
      have cc := k4.cell
      by_cases z0 : s4 = 0
      · have z0z : (((s4 : Nat) : Int) == 0) = true := by simp; omega
        go_wp2
        go_ret2
        exact ⟨by rw [z0]; rfl, k4.sw⟩
      · have z0z : (((s4 : Nat) : Int) == 0) = false := by simp; omega
        by_cases z1 : s4 = 12
        · have z1z : (((s4 : Nat) : Int) == 12) = true := by simp; omega
          go_wp2
          go_ret2
          exact ⟨by rw [z1]; rfl, k4.sw⟩
        · have z1z : (((s4 : Nat) : Int) == 12) = false := by simp; omega
          have eh : hintOf s4 = .unknown := by unfold hintOf; rw [if_neg z0, if_neg z1]
          go_wp2
          go_ret2
          exact ⟨by rw [eh]; rfl, k4.sw⟩
  · have h8z : ¬ ((hi : Int) - (lo : Int) ≥ 8) := by omega
    have hraw : rawPivot ltInt d lo hi = (J, 0) := by simp only [rawPivot, if_neg h8, ← hJ]
    rw [hraw]
    clear MA MD hraw hI hJ hK
    go_enter Try.func51, Try.ntmps51
    go_wp2
    go_ret2
    exact ⟨rfl, by rw [← HWA.out]; exact C0.out.sw⟩
end Go.Proofs.Ytablffjhipgfbaa
end

/- The library's plain sort at addresses: some places are exchanged by chance. -/
section
namespace Go.Proofs.Ytablffjhipgfbaa
open Go.Shelf Go.RowKit Go.Lib Go.Sort

/-- The row holds d, and block g, made since, the number X. -/
structure RndU (w0 : World) (b o : Nat) (d : Array Int) (g X : Nat) (W : World) : Prop where
  sw : SW enU w0 b o d W
  cell : W.cell? ⟨g, 0, none⟩ = some (.int .u64 X)
  free : W.frozen? ⟨g, 0, none⟩ = false
  new : w0.heap.size ≤ g
  lt : g < W.heap.size
section
variable {w0 W : World} {b o g X : Nat} {d0 d : Array Int}
theorem RndU.drewN (h : RndU w0 b o d g X W) (q : Nat) : RndU w0 b o d g X (W.drewN q) := ⟨h.sw.drewN q, h.cell, h.free, h.new, h.lt⟩
theorem RndU.put (h : RndU w0 b o d g X W) (t : Nat) : RndU w0 b o d g t (W.setCell ⟨g, 0, none⟩ (.int .u64 t)) :=
  ⟨h.sw.setCell_new g 0 _ h.new, World.cell?_setCell_same' _ _ _ (by rw [h.cell]; rfl), by rw [World.frozen?_setCell]; exact h.free, h.new, by simpa using h.lt⟩
theorem RndU.start (h : SW enU w0 b o d W) (T : TypeId) (t : Nat) : RndU w0 b o d W.heap.size t (W.alloc (.cells #[.int .u64 t] T)) := ⟨h.alloc _, by simp, by simp, h.le, by simp⟩
theorem RndU.exch {G : Nat → Int} (h : RndU w0 b o d g X W) (R : RowU w0 b o d0) (HG : Hid (∀ t, G t = d[t]!)) (i j : Nat) (hi : i < d.size) (hj : j < d.size) :
    RndU w0 b o (swp d i j) g X ((W.setCell ⟨b, o + i, none⟩ (.int .u32 (G j))).setCell ⟨b, o + j, none⟩ (.int .u32 (G i))) := by
  have hne : g ≠ b := by
    have := h.new
    have := R.low
    omega
  refine ⟨Ytablffjhipgfbaa.exch h.sw R HG i j hi hj, ?_, by rw [World.frozen?_setCell, World.frozen?_setCell]; exact h.free, h.new, by simpa using h.lt⟩
  rw [World.cell?_setCell_other _ _ _ _ (by intro e; simp only [Addr.mk.injEq] at e; exact hne e.1.symm), World.cell?_setCell_other _ _ _ _ (by intro e; simp only [Addr.mk.injEq] at e; exact hne e.1.symm)]
  exact h.cell
end

set_option maxHeartbeats 8000000 in
set_option maxRecDepth 100000 in
theorem ubreak_any {w0 w : World} {b o c : Nat} {d0 d : Array Int} {lo L : Nat} (R : RowU w0 b o d0) (hs : d.size = d0.size) (S : SW enU w0 b o d w) (h8 : 8 ≤ L) (h2 : lo + L ≤ d.size) (hz : d.size < 4611686018427387904) :
    Calls Try.prog 50 #[.slice (some ⟨b, o, none⟩) d.size c, .int .i64 lo, .int .i64 ((lo + L : Nat) : Int)] w fun e w' => e = .returned (.tuple #[]) ∧ SW enU w0 b o (breakPatterns d lo (lo + L)) w' := by
  rw [breakPatterns_eq d lo L h8]
  obtain ⟨M, hM⟩ : ∃ M : Nat, M = 1 <<< bitsLen L := ⟨_, rfl⟩
  have hM1 : 1 ≤ M := by rw [hM, Nat.one_shiftLeft]; exact Nat.two_pow_pos _
  have hM2 : M ≤ 2 * L := by rw [hM, Nat.one_shiftLeft]; exact two_pow_bitsLen_le (by omega)
  have hNP := hid (fun V => AnyF.nextPowerOfTwo Try.layPow L (by omega) V)
  rw [← hM] at hNP ⊢
  clear hM
  obtain ⟨N, hN⟩ : ∃ N, N = d.size := ⟨_, rfl⟩
  rw [← hN] at h2 hz ⊢
  have RR := hid R
  have hs0 : Hid (d0.size = N) := hid (by omega)
  have hdN : Hid (d.size = N) := hid hN.symm
  have S1 := hid (RndU.start S 108 L)
  have eU : (UInt64.ofNat L).toNat = L := by simp; omega
  have HU := hid eU
  clear R hs hN S eU
  obtain ⟨g, hg⟩ : ∃ g, g = w.heap.size := ⟨_, rfl⟩
  rw [← hg] at S1
  obtain ⟨wa, hwa⟩ : ∃ wa, wa = w.alloc (.cells #[.int .u64 (L : Int)] 108) := ⟨_, rfl⟩
  rw [← hwa] at S1
  have HWA := hid hwa
  have HGG := hid hg
  clear hwa hg
  have HX := hid (fun (V : World) (X : Nat) (hX : X < 18446744073709551616) (h1 : V.cell? ⟨g, 0, none⟩ = some (.int .u64 X)) (h2 : V.frozen? ⟨g, 0, none⟩ = false) => AnyF.xorshift_Next Try.layNext g 0 X hX V h1 h2)
  have eL : ((lo : Int) + (L : Int) - (lo : Int)) = (L : Int) := by omega
  go_enter Try.func50, Try.ntmps50
  go_wp2_with fail
  rw [← HWA.out, ← HGG.out]
  refine (hNP.out _).mono ?_
  rintro e w1 ⟨rfl, hw1⟩
  rw [hw1]
  clear hw1
  go_wp2_with fail
  go_loopw [9] (fun vi wr => ∃ (t : Nat) (r : UInt64) (dk : Array Int), vi = .int .i64 ((lo + L / 4 * 2 - 1 + t : Nat) : Int) ∧ t ≤ 3 ∧ Hid (dk.size = N) ∧ Hid (RndU w0 b o dk g r.toNat wr) ∧ Hid (bpRest lo L M (lo + L / 4 * 2 - 1) (3 - t) t (r, dk) = bpRest lo L M (lo + L / 4 * 2 - 1) 3 0 (UInt64.ofNat L, d))) (fun vi _ => lo + L / 4 * 2 + 3 - (intOf vi).toNat)
  case atStart => exact ⟨0, UInt64.ofNat L, d, by congr 1; omega, by omega, hdN, hid (by rw [HU.out]; exact S1.out), hid rfl⟩
  case round =>
    clear S1
    obtain ⟨t, r, dk, rfl, ht, hk, SK, HR⟩ := hrel
    by_cases h3 : t < 3
    · obtain ⟨X', hX'⟩ : ∃ X' : Nat, X' = xorNextN r.toNat := ⟨_, rfl⟩
      have lX' : X' < 18446744073709551616 := by rw [hX']; exact xorNextN_lt _ r.toNat_lt
      obtain ⟨O, hO⟩ : ∃ O : Nat, O = X' &&& (M - 1) := ⟨_, rfl⟩
      have lO : O ≤ M - 1 := by rw [hO]; exact Nat.and_le_right
      have eAnd : bits .and .u64 (X' : Int) ((M : Int) - 1) = (O : Int) := by
        rw [show ((M : Int) - 1) = ((M - 1 : Nat) : Int) by omega, bits_and_u64_nat _ _ lX' (by omega), hO]
      have hN := HX.out wr r.toNat r.toNat_lt SK.out.cell SK.out.free
      rw [← hX'] at hN
      have HN : Hid (X' = (xorNext r).toNat ∧ O = (xorNext r).toNat &&& (M - 1)) := hid (by
        have e : X' = (xorNext r).toNat := by rw [hX', xorNext_toNat]
        exact ⟨e, by rw [hO, e]⟩)
      have HXT := hid hN
      clear hX' hO hN
      go_wp2_with fail
      refine HXT.out.mono ?_
      rintro e w2 ⟨rfl, hw2⟩
      have SX : Hid (RndU w0 b o dk g (xorNext r).toNat w2) := hid (by
        rw [hw2, ← HN.out.1]
        exact (SK.out.put X').drewN 3)
      clear hw2 SK HXT
      obtain ⟨G, HG, hc, hf⟩ := fam SX.out.sw RR.out hs0.out hk.out
      by_cases hLO : L ≤ O
      · have hLz : (L : Int) ≤ (O : Int) := by omega
        by_cases hEq : lo + L / 4 * 2 - 1 + t = lo + (O - L)
        all_goals
          go_wp2_with fail
          go_region
          all_goals go_wp2
          go_roundw
          case rel => exact ⟨t + 1, xorNext r, swp dk (lo + L / 4 * 2 - 1 + t) (lo + (O - L)), by first | rfl | (congr 1 <;> omega), by omega, hid (by rw [size_swp]; exact hk.out), hid (by (try rw [hEq]); (try rw [← hEq]); exact (SX.out.exch RR.out HG _ _ (by have := hk.out; omega) (by have := hk.out; omega)).drewN 1), hid (by rw [← HR.out, bp_step lo L M _ t r dk ((O - L)) (by omega) (by rw [← HN.out.2, if_pos (by omega)])])⟩
          case measure => simp [intOf]; omega
      · have hLz : ¬ ((L : Int) ≤ (O : Int)) := by omega
        by_cases hEq : lo + L / 4 * 2 - 1 + t = lo + O
        all_goals
          go_wp2_with fail
          go_region
          all_goals go_wp2
          go_roundw
          case rel => exact ⟨t + 1, xorNext r, swp dk (lo + L / 4 * 2 - 1 + t) (lo + O), by first | rfl | (congr 1 <;> omega), by omega, hid (by rw [size_swp]; exact hk.out), hid (by (try rw [hEq]); (try rw [← hEq]); exact (SX.out.exch RR.out HG _ _ (by have := hk.out; omega) (by have := hk.out; omega)).drewN 1), hid (by rw [← HR.out, bp_step lo L M _ t r dk (O) (by omega) (by rw [← HN.out.2, if_neg (by omega)])])⟩
          case measure => simp [intOf]; omega
    · obtain rfl : t = 3 := by omega
      go_wp2
      go_end0
      exact ⟨rfl, by rw [← HR.out]; exact SK.out.sw⟩
end Go.Proofs.Ytablffjhipgfbaa
end

/- The library's plain sort at addresses, whole: what it leaves is in order, and the same addresses. -/
section
namespace Go.Proofs.Ytablffjhipgfbaa
open Go.Shelf Go.RowKit Go.Lib Go.Sort

/-- Whatever sorts the part from x to y of dk sorts the part from lo to hi of d. -/
def FinU (lo hi : Nat) (d : Array Int) (x y : Nat) (dk : Array Int) : Prop := ∀ F, PermIn x y dk F → SortedIn ltInt x y F → PermIn lo hi d F ∧ SortedIn ltInt lo hi F
theorem FinU.perm {lo hi x y : Nat} {d dk dj : Array Int} (h : FinU lo hi d x y dk) (p : PermIn x y dk dj) : FinU lo hi d x y dj := fun F p2 s => h F (permIn_trans _ _ _ _ _ p p2) s
theorem permU (d : Array Int) (x y : Nat) : PermIn x y d d := permIn_refl _ _ _

set_option maxHeartbeats 16000000 in
set_option maxRecDepth 100000 in
theorem upd_any {w0 : World} {b o c N : Nat} {d0 : Array Int} (R : RowU w0 b o d0) (hs0 : d0.size = N) (hz : N < 4611686018427387904) : ∀ (n lo hi lim : Nat) (d : Array Int) (w : World), hi - lo < n → lo ≤ hi → hi ≤ N → d.size = N → lim < 4611686018427387904 → SW enU w0 b o d w → Below ltInt lo hi d →
    Calls Try.prog 34 #[.slice (some ⟨b, o, none⟩) N c, .int .i64 lo, .int .i64 hi, .int .i64 lim] w fun e w' => e = .returned (.tuple #[]) ∧ ∃ d', SW enU w0 b o d' w' ∧ PermIn lo hi d d' ∧ SortedIn ltInt lo hi d' := by
  have HL := hid (fun V x y => uless_any x y V)
  have KI := hid (fun (V : World) (dk : Array Int) (x y : Nat) (hk : dk.size = N) (SV : SW enU w0 b o dk V) (e1 : x ≤ y) (e2 : y ≤ N) => (by
    have h := uinsert_any (c := c) (lo := x) (hi := y) R (hk.trans hs0.symm) SV e1 (by omega) (by omega)
    rwa [hk] at h : Calls Try.prog 48 #[.slice (some ⟨b, o, none⟩) N c, .int .i64 x, .int .i64 y] V fun e w' => e = .returned (.tuple #[]) ∧ SW enU w0 b o (insertionSort ltInt dk x y) w'))
  have KH := hid (fun (V : World) (dk : Array Int) (x y : Nat) (hk : dk.size = N) (SV : SW enU w0 b o dk V) (e1 : x < y) (e2 : y ≤ N) => (by
    have h := uheap_any (c := c) (lo := x) (hi := y) R (hk.trans hs0.symm) SV e1 (by omega) (by omega)
    rwa [hk] at h : Calls Try.prog 49 #[.slice (some ⟨b, o, none⟩) N c, .int .i64 x, .int .i64 y] V fun e w' => e = .returned (.tuple #[]) ∧ SW enU w0 b o (heapSort ltInt dk x y) w'))
  have KB := hid (fun (V : World) (dk : Array Int) (x y : Nat) (hk : dk.size = N) (SV : SW enU w0 b o dk V) (e1 : 12 < y - x) (e2 : y ≤ N) => (by
    have h := ubreak_any (c := c) (lo := x) (L := y - x) R (hk.trans hs0.symm) SV (by omega) (by omega) (by omega)
    rwa [hk, show x + (y - x) = y by omega] at h : Calls Try.prog 50 #[.slice (some ⟨b, o, none⟩) N c, .int .i64 x, .int .i64 y] V fun e w' => e = .returned (.tuple #[]) ∧ SW enU w0 b o (breakPatterns dk x y) w'))
  have KP := hid (fun (V : World) (dk : Array Int) (x y : Nat) (hk : dk.size = N) (SV : SW enU w0 b o dk V) (e1 : x < y) (e2 : y ≤ N) => (by
    have h := upivot_any (c := c) (lo := x) (hi := y) R (hk.trans hs0.symm) SV e1 (by omega) (by omega)
    rwa [hk] at h : Calls Try.prog 51 #[.slice (some ⟨b, o, none⟩) N c, .int .i64 x, .int .i64 y] V fun e w' => e = .returned (.tuple #[.int .i64 (choosePivot ltInt dk x y).1, .int .i64 (hintCode (choosePivot ltInt dk x y).2)]) ∧ SW enU w0 b o dk w'))
  have KT := hid (fun (V : World) (dk : Array Int) (x y : Nat) (hk : dk.size = N) (SV : SW enU w0 b o dk V) (e1 : x < y) (e2 : y ≤ N) => (by
    have h := uturn_any (c := c) (lo := x) (hi := y) R (hk.trans hs0.symm) SV e1 (by omega) (by omega)
    rwa [hk] at h : Calls Try.prog 52 #[.slice (some ⟨b, o, none⟩) N c, .int .i64 x, .int .i64 y] V fun e w' => e = .returned (.tuple #[]) ∧ SW enU w0 b o (reverseRange dk x y) w'))
  have KA := hid (fun (V : World) (dk : Array Int) (x y : Nat) (hk : dk.size = N) (SV : SW enU w0 b o dk V) (e1 : x < y) (e2 : y ≤ N) => (by
    have h := upartial_any (c := c) (lo := x) (hi := y) R (hk.trans hs0.symm) SV e1 (by omega) (by omega)
    rwa [hk] at h : Calls Try.prog 53 #[.slice (some ⟨b, o, none⟩) N c, .int .i64 x, .int .i64 y] V fun e w' => e = .returned (.bool (partialInsertionSort ltInt dk x y).2) ∧ SW enU w0 b o (partialInsertionSort ltInt dk x y).1 w'))
  have KE := hid (fun (V : World) (dk : Array Int) (x y pv : Nat) (hk : dk.size = N) (SV : SW enU w0 b o dk V) (e1 : x ≤ pv) (e3 : pv < y) (e2 : y ≤ N) => (by
    have h := uparteq_any (c := c) (lo := x) (hi := y) (pv := pv) R (hk.trans hs0.symm) SV e1 e3 (by omega) (by omega)
    rwa [hk] at h : Calls Try.prog 55 #[.slice (some ⟨b, o, none⟩) N c, .int .i64 x, .int .i64 y, .int .i64 pv] V fun e w' => e = .returned (.int .i64 (partitionEqual ltInt dk x y pv).1) ∧ SW enU w0 b o (partitionEqual ltInt dk x y pv).2 w'))
  have KR := hid (fun (V : World) (dk : Array Int) (x y pv : Nat) (hk : dk.size = N) (SV : SW enU w0 b o dk V) (e1 : x ≤ pv) (e3 : pv < y) (e2 : y ≤ N) => (by
    have h := upart_any (c := c) (lo := x) (hi := y) (pv := pv) R (hk.trans hs0.symm) SV e1 e3 (by omega) (by omega)
    rwa [hk] at h : Calls Try.prog 56 #[.slice (some ⟨b, o, none⟩) N c, .int .i64 x, .int .i64 y, .int .i64 pv] V fun e w' => e = .returned (.tuple #[.int .i64 (partition ltInt dk x y pv).1, .bool (partition ltInt dk x y pv).2.1]) ∧ SW enU w0 b o (partition ltInt dk x y pv).2.2 w'))
  have RR := hid R
  have HS0 := hid hs0
  clear R hs0
  intro n
  induction n with
  | zero => intro _ _ _ _ _ h; exact absurd h (Nat.not_lt_zero _)
  | succ n ih =>
    intro lo hi lim d w hn h1 h2 hd hlim S HB
    have IH := hid ih
    have S0 := hid S
    have HB0 := hid HB
    have HD := hid hd
    clear ih S HB hd
    go_enter Try.func34, Try.ntmps34
    go_wp2
    go_loopg [1, 2, 3, 8, 9] (hi - lo) (fun k s1 s2 s3 s8 s9 wr => ∃ (x y l : Nat) (wb wp : Bool) (dk : Array Int), s1 = .int .i64 x ∧ s2 = .int .i64 y ∧ s3 = .int .i64 l ∧ s8 = .bool wb ∧ s9 = .bool wp ∧ x ≤ y ∧ y ≤ N ∧ y - x ≤ k ∧ k ≤ hi - lo ∧ l ≤ lim ∧ Hid (dk.size = N) ∧ Hid (Below ltInt x y dk) ∧ Hid (SW enU w0 b o dk wr) ∧ Hid (FinU lo hi d x y dk))
    case atStart => exact ⟨lo, hi, lim, true, true, d, rfl, rfl, rfl, rfl, rfl, h1, h2, Nat.le_refl _, Nat.le_refl _, Nat.le_refl _, HD, HB0, S0, hid (fun F p s => ⟨p, s⟩)⟩
    case round =>
      clear S0 HB0
      obtain ⟨x, y, l, wb, wp, dk, rfl, rfl, rfl, rfl, rfl, hxy, hyN, hgk, hgn, hl, hk, HB, SK, HF⟩ := hrel
      by_cases h12 : y - x ≤ 12
      · have h12z : (y : Int) - (x : Int) ≤ 12 := by omega
        go_wp2_with fail
        refine (KI.out _ dk x y hk.out SK.out hxy hyN).mono ?_
        rintro e w1 ⟨rfl, s1⟩
        go_wp2
        (try simp only [Exit.inBlock, Exit.then])
        refine bodyPost_ret (results_none rfl _ _ _) rfl ?_
        obtain ⟨p, q⟩ := insertionSort_holds swo_ltInt dk x y hxy (by have := hk.out; omega)
        obtain ⟨p2, q2⟩ := HF.out _ p q
        exact ⟨rfl, _, s1, p2, q2⟩
      · have h12z : ¬ ((y : Int) - (x : Int) ≤ 12) := by omega
        by_cases hl0 : l = 0
        · have hl0z : ((l : Int) == 0) = true := by simp; omega
          go_wp2_with fail
          refine (KH.out _ dk x y hk.out SK.out (by omega) hyN).mono ?_
          rintro e w1 ⟨rfl, s1⟩
          go_wp2
          (try simp only [Exit.inBlock, Exit.then])
          refine bodyPost_ret (results_none rfl _ _ _) rfl ?_
          obtain ⟨p, q⟩ := heapSort_holds swo_ltInt dk x y hxy (by have := hk.out; omega)
          obtain ⟨p2, q2⟩ := HF.out _ p q
          exact ⟨rfl, _, s1, p2, q2⟩
        · have hl0z : ((l : Int) == 0) = false := by simp; omega
          go_upto_if 35 with fail
          go_cut [3] from 19 (fun s3 wc => ∃ (l' : Nat) (dj : Array Int), s3 = .int .i64 l' ∧ l' ≤ l ∧ dj.size = N ∧ PermIn x y dk dj ∧ SW enU w0 b o dj wc)
          case first =>
            cases wb
            · go_wp2_with fail
              refine (KB.out _ dk x y hk.out SK.out (by omega) hyN).mono ?_
              rintro e w1 ⟨rfl, s1⟩
              have p := breakPatterns_holds dk x y hxy (by have := hk.out; omega)
              go_wp2_with fail
              go_meet
              case rel => exact ⟨l - 1, _, by go_num, by omega, p.1.trans hk.out, p, s1⟩
            · go_wp2_with fail
              go_meet
              case rel => exact ⟨l, dk, rfl, Nat.le_refl _, hk.out, permU _ _ _, SK.out⟩
          case rest =>
            obtain ⟨l1, dj, rfl, hl1, hj, p1, sj⟩ := hcut
            have HJ := hid hj
            have SJ := hid sj
            have P1 := hid p1
            clear SK hj sj p1
            have hpv := choosePivot_holds ltInt dj x y (by omega)
            have hc := KP.out wc dj x y HJ.out SJ.out (by omega) hyN
            obtain ⟨pv, h, hpc⟩ : ∃ pv h, choosePivot ltInt dj x y = (pv, h) := ⟨_, _, rfl⟩
            rw [hpc] at hpv hc
            simp only [] at hpv hc
            obtain ⟨hc1, hc2⟩ := hpv
            clear hpc
            have HC := hid hc
            clear hc
            go_upto_if 50 with (go_at_call 51; refine HC.out.mono ?_; rintro e w2 ⟨rfl, s2⟩)
            have S2 := hid s2
            clear s2 HC SJ
            go_cut [11, 12] from 19 (fun s11 s12 wc => ∃ (pv : Nat) (hc : Int) (dj : Array Int), s11 = .int .i64 pv ∧ s12 = .int .i64 hc ∧ x ≤ pv ∧ pv < y ∧ dj.size = N ∧ PermIn x y dk dj ∧ SW enU w0 b o dj wc)
            case first =>
              by_cases hh : h = .decreasing
              · have hcode : hintCode h = 2 := by rw [hh]; rfl
                go_wp2_with fail
                refine (KT.out _ dj x y HJ.out S2.out (by omega) hyN).mono ?_
                rintro e w3 ⟨rfl, s3⟩
                have p := reverseRange_holds dj x y hxy (by have := HJ.out; omega)
                go_wp2_with fail
                go_meet
                case rel => exact ⟨(y - 1) - (pv - x), 1, _, by first | go_num | (congr 1; omega), rfl, by omega, by omega, p.1.trans HJ.out, permIn_trans _ _ _ _ _ P1.out p, s3⟩
              · have hcode : ¬ (hintCode h = 2) := fun e => hh (by cases h <;> simp [hintCode] at e ⊢)
                go_wp2_with fail
                go_meet
                case rel => exact ⟨pv, hintCode h, dj, rfl, rfl, hc1, hc2, HJ.out, P1.out, S2.out⟩
            case rest =>
              clear HJ P1 S2 hc1 hc2
              clear pv h dj
              obtain ⟨pv, hc, dj, rfl, rfl, hc1, hc2, hj, p1, sj⟩ := hcut
              have HJ := hid hj
              have SJ := hid sj
              have P1 := hid p1
              clear hj sj p1
              go_upto_region 15 with fail
              go_cut [68] from 19 (fun s68 wx => ∃ t : Bool, s68 = .bool t ∧ wx = wc)
              case first =>
                cases wb <;> cases wp <;>
                  (go_wp2_with fail
                   go_meet
                   exact ⟨_, rfl, rfl⟩)
              case rest =>
                obtain ⟨t, rfl, rfl⟩ := hcut
                go_upto_if 68 with fail
                go_cut [] from 19 (fun wx => ∃ dj : Array Int, dj.size = N ∧ PermIn x y dk dj ∧ SW enU w0 b o dj wx)
                case first =>
                  cases t
                  · go_wp2_with fail
                    go_meet
                    case rel => exact ⟨dj, HJ.out, P1.out, SJ.out⟩
                  · have hB := HB.out.perm (by have := hk.out; omega) P1.out
                    obtain ⟨p, q⟩ := partialInsertionSort_holds swo_ltInt dj x y (by omega) (by have := HJ.out; omega) hB
                    have PQ := hid q
                    have PP := hid p
                    have hc := KA.out wc dj x y HJ.out SJ.out (by omega) hyN
                    obtain ⟨D, hD⟩ : ∃ D, D = partialInsertionSort ltInt dj x y := ⟨_, rfl⟩
                    rw [← hD] at hc PP PQ
                    have HC := hid hc
                    clear hD p q hc hB
                    go_wp2_with fail
                    refine HC.out.mono ?_
                    rintro e w4 ⟨rfl, s4⟩
                    cases hd2 : D.2
                    · go_wp2_with fail
                      go_meet
                      case rel => exact ⟨D.1, PP.out.1.trans HJ.out, permIn_trans _ _ _ _ _ P1.out PP.out, s4⟩
                    · have HQ := hid (PQ.out hd2)
                      go_wp2
                      (try simp only [Exit.inBlock, Exit.then])
                      refine bodyPost_ret (results_none rfl _ _ _) rfl ?_
                      obtain ⟨p2, q2⟩ := HF.out _ (permIn_trans _ _ _ _ _ P1.out PP.out) HQ.out
                      exact ⟨rfl, _, s4, p2, q2⟩
                case rest =>
                  clear HJ SJ P1
                  clear dj
                  obtain ⟨dj, hj, p1, sj⟩ := hcut
                  have HJ := hid hj
                  have SJ := hid sj
                  have P1 := hid p1
                  clear hj sj p1
                  obtain ⟨G, HG, hcs, hfs⟩ := fam SJ.out RR.out HS0.out HJ.out
                  go_upto_region 17 with fail
                  go_cut [87] from 19 (fun s87 wx => ∃ t : Bool, s87 = .bool t ∧ (t = true → 0 < x ∧ ltInt dj[x - 1]! dj[pv]! = false) ∧ SW enU w0 b o dj wx)
                  case first =>
                    rcases Nat.eq_zero_or_pos x with ha0 | ha0
                    · have ha0z : decide ((x : Int) > 0) = false := decide_eq_false (by omega)
                      go_big_quiet (first | (go_at_call 54; refine Calls.quiet_of_same (HL.out _ _ _)))
                      go_wp2_with fail
                      go_meet
                      case rel => exact ⟨false, rfl, (fun e => by cases e), SJ.out.drewN nq⟩
                    · have ha0z : (x : Int) > 0 := by omega
                      go_big_quiet (first | (go_at_call 54; refine Calls.quiet_of_same (HL.out _ _ _)))
                      go_wp2_with fail
                      go_meet
                      case rel => exact ⟨!ltInt (G (x - 1)) (G pv), rfl, (fun e => ⟨ha0, by rw [← HG.out, ← HG.out]; exact notT e⟩), SJ.out.drewN nq⟩
                  case rest =>
                    obtain ⟨t, rfl, ht, s5⟩ := hcut
                    have S5 := hid s5
                    have HT := hid ht
                    have hB := HB.out.perm (by have := hk.out; omega) P1.out
                    clear SJ hcs hfs HG ht s5
                    cases t
                    · obtain ⟨mid, ap, d4, hx⟩ : ∃ mid ap d4, partition ltInt dj x y pv = (mid, ap, d4) := ⟨(partition ltInt dj x y pv).1, (partition ltInt dj x y pv).2.1, (partition ltInt dj x y pv).2.2, rfl⟩
                      obtain ⟨r1, r2, r3, r4, r5, r6, r7⟩ := round_part swo_ltInt (partition_holds ltInt) hc1 hc2 (show y ≤ dj.size by have := HJ.out; omega) hB hx
                      have hc := KR.out wc dj x y pv HJ.out S5.out hc1 hc2 hyN
                      rw [hx] at hc
                      simp only [] at hc
                      have HC := hid hc
                      have R4 := hid r4
                      have R5 := hid r5
                      have R6 := hid r6
                      have R7 := hid r7
                      have h4 : Hid (d4.size = N) := hid (r3.trans HJ.out)
                      clear hc hx r3 r4 r5 r6 r7 hB HT
                      go_upto_if 113 with (go_at_call 56; refine HC.out.mono ?_; rintro e w7 ⟨rfl, s7⟩)
                      have S7 := hid s7
                      clear s7 HC S5
                      by_cases hlr : mid - x < y - mid
                      · have hlrz : (mid : Int) - (x : Int) < (y : Int) - (mid : Int) := by omega
                        have HI := hid (IH.out x mid l1 d4 w7 (by omega) r1 (by omega) h4.out (by omega) S7.out R4.out)
                        go_wp2_with fail
                        refine HI.out.mono ?_
                        rintro e w8 ⟨rfl, d5, s8, p5, q5⟩
                        obtain ⟨b6, f6⟩ := R6.out d5 p5 q5
                        have HF6 := hid (fun F p s => HF.out F (permIn_trans _ _ _ _ _ P1.out (f6 F p s).1) (f6 F p s).2)
                        have B6 := hid b6
                        have S8 := hid s8
                        have h5 : Hid (d5.size = N) := hid (p5.1.trans h4.out)
                        clear b6 f6 s8 p5 q5
                        go_wp2
                        go_roundg (y - (mid + 1))
                        case measure => omega
                        case rel => exact ⟨mid + 1, y, l1, _, ap, d5, by simp, rfl, rfl, rfl, rfl, by omega, hyN, Nat.le_refl _, by omega, by omega, h5, B6, S8, HF6⟩
                      · have hlrz : ¬ ((mid : Int) - (x : Int) < (y : Int) - (mid : Int)) := by omega
                        have HI := hid (IH.out (mid + 1) y l1 d4 w7 (by omega) (by omega) hyN h4.out (by omega) S7.out R5.out)
                        go_wp2_with fail
                        refine HI.out.mono ?_
                        rintro e w8 ⟨rfl, d5, s8, p5, q5⟩
                        obtain ⟨b6, f6⟩ := R7.out d5 p5 q5
                        have HF6 := hid (fun F p s => HF.out F (permIn_trans _ _ _ _ _ P1.out (f6 F p s).1) (f6 F p s).2)
                        have B6 := hid b6
                        have S8 := hid s8
                        have h5 : Hid (d5.size = N) := hid (p5.1.trans h4.out)
                        clear b6 f6 s8 p5 q5
                        go_wp2
                        go_roundg (mid - x)
                        case measure => omega
                        case rel => exact ⟨x, mid, l1, _, ap, d5, rfl, rfl, rfl, rfl, rfl, r1, by omega, Nat.le_refl _, by omega, by omega, h5, B6, S8, HF6⟩
                    · obtain ⟨hx0, hnl⟩ := HT.out rfl
                      obtain ⟨mid, d4, hx⟩ : ∃ mid d4, partitionEqual ltInt dj x y pv = (mid, d4) := ⟨(partitionEqual ltInt dj x y pv).1, (partitionEqual ltInt dj x y pv).2, rfl⟩
                      obtain ⟨r1, r2, r3, r4, r5⟩ := round_eq swo_ltInt (partitionEqual_holds ltInt) hx0 hc1 hc2 (show y ≤ dj.size by have := HJ.out; omega) hB hnl hx
                      have hc := KE.out wc dj x y pv HJ.out S5.out hc1 hc2 hyN
                      rw [hx] at hc
                      simp only [] at hc
                      have HC := hid hc
                      have R4 := hid r4
                      have HF6 := hid (fun F p s => HF.out F (permIn_trans _ _ _ _ _ P1.out (r5 F p s).1) (r5 F p s).2)
                      have h4 : Hid (d4.size = N) := hid (r3.trans HJ.out)
                      clear hc hx r3 r4 r5 hB HT hnl
                      go_wp2_with fail
                      refine HC.out.mono ?_
                      rintro e w7 ⟨rfl, s7⟩
                      have S7 := hid s7
                      clear s7 HC S5
                      go_wp2
                      go_roundg (y - mid)
                      case measure => omega
                      case rel => exact ⟨mid, y, l1, wb, wp, d4, rfl, rfl, rfl, rfl, rfl, r2, hyN, Nat.le_refl _, by omega, by omega, h4, R4, S7, HF6⟩
end Go.Proofs.Ytablffjhipgfbaa
end

/- slices.Sort at a row of addresses of the call's own: it holds the same ones behind it, rising. -/
section
namespace Go.Proofs.Ytablffjhipgfbaa
open Go.Shelf Go.RowKit Go.Lib Go.Sort

/-- Addresses as the library's sort holds them. -/
def ints (l : List Nat) : Array Int := (l.map fun x : Nat => (x : Int)).toArray
theorem ints_size (l : List Nat) : (ints l).size = l.length := by simp [ints]
theorem ints_at (l : List Nat) (t : Nat) (h : t < l.length) : (ints l)[t]! = ((l[t] : Nat) : Int) := by
  rw [getElem!_pos _ t (by rw [ints_size]; exact h)]
  simp [ints]
theorem RowE.holdsU {w0 w : World} {p : Option Addr} {c : Nat} {l : List Nat} (h : RowE ElemA w0 w (.slice p l.length c) l) (hl : 0 < l.length) : ∃ g, p = some ⟨g, 0, none⟩ ∧ w0.heap.size ≤ g ∧ RowU w g 0 (ints l) := by
  obtain ⟨hx, h2⟩ := h.own
  rcases h2 with ⟨h3, h4⟩ | ⟨g, cap, cur, he, hb, hh, hn, hc, hs, ht⟩
  · omega
  · injection he with he1 he2 he3
    subst he1
    refine ⟨g, rfl, hb, fun t hlt => ?_, (Array.getElem?_eq_some_iff.1 hh).1⟩
    have hlt2 : t < l.length := by rw [ints_size] at hlt; exact hlt
    have e1 : (ecells ElemA l)[t]? = some (.int .u32 ((l[t] : Nat) : Int)) := by
      rw [ecellsA, List.getElem?_map, List.getElem?_eq_getElem hlt2]
      rfl
    rw [← ht, List.getElem?_take, if_pos (by show t < l.length * 1; omega), Array.getElem?_toList] at e1
    rw [Nat.zero_add, ints_at l t hlt2]
    refine ⟨(cell_of_row w g t _ _ _ hh).trans e1, ?_⟩
    simp [World.frozen?, hh]
theorem RowE.sortedU {w0 w w' : World} {g c : Nat} {l l' : List Nat} (h : RowE ElemA w0 w (.slice (some ⟨g, 0, none⟩) l.length c) l) (hl : l'.length = l.length) (S : SW enU w g 0 (ints l') w') : RowE ElemA w0 w' (.slice (some ⟨g, 0, none⟩) l'.length c) l' := by
  obtain ⟨n, os, rfl⟩ := S
  obtain ⟨hx, h2⟩ := h.own
  rcases h2 with ⟨h3, _⟩ | ⟨g', cap, cur, he, hb, hh, hn, hc, hs, ht⟩
  · cases h3
  · injection he with he1 he2 he3
    injection he1 with he1
    injection he1 with he1 _ _
    subst he1 he3
    have hg := (Array.getElem?_eq_some_iff.1 hh).1
    have hheap : ∀ j, j < w.heap.size → (sortWorld enU w g 0 n (ints l') os).heap[j]? = (w.heap.modify g (onCells (Go.Sort.putCells enU 0 (ints l'))))[j]? := by
      intro j hj
      show ((w.heap.modify g _) ++ os)[j]? = _
      rw [Array.getElem?_append_left (by simpa using hj)]
    have hcs : cur.size = c := by rw [hs]; exact Nat.mul_one c
    refine ⟨⟨by rw [ecells_length], .inr ⟨g, c, Go.Sort.putCells enU 0 (ints l') cur, rfl, hb, ?_, by rw [hl]; exact hn, hc, by unfold Go.Sort.putCells; rw [Array.size_mapIdx, hs], ?_⟩⟩, ?_⟩
    · rw [hheap g hg, Array.getElem?_modify, if_pos rfl, hh]
      rfl
    · rw [ecellsA]
      apply List.ext_getElem
      · unfold Go.Sort.putCells
        simp only [List.length_take, Array.length_toList, Array.size_mapIdx, hcs, List.length_map]
        show min (l'.length * 1) c = l'.length
        omega
      · intro t h1 h2
        rw [List.length_map] at h2
        rw [List.getElem_take, Array.getElem_toList, List.getElem_map]
        unfold Go.Sort.putCells
        rw [Array.getElem_mapIdx, if_pos ⟨Nat.zero_le _, by rw [Nat.zero_add, ints_size]; exact h2⟩, Nat.sub_zero, ints_at l' t h2]
    · refine h.low.trans ⟨rfl, rfl, rfl, ?_, fun j hj => ?_⟩
      · simp [sortWorld, grow, putRow, mapBlock]
      · rw [hheap j (Nat.lt_of_lt_of_le hj h.low.size), Array.getElem?_modify, if_neg (by omega)]
/-- What is in order, and the same, is the row as the document's order has it. -/
theorem sorted_ints {l : List Nat} {d : Array Int} (hp : PermIn 0 (ints l).size (ints l) d) (hs : SortedIn ltInt 0 (ints l).size d) : d = ints (srtA l) := by
  have hz : d.size = l.length := by rw [hp.1, ints_size]
  have hperm : d.toList.Perm (l.map fun x : Nat => (x : Int)) := by
    have h2 := hp.2.2
    rw [ints_size] at h2
    have e1 : (d.extract 0 l.length).toList = d.toList := by rw [← hz]; simp
    have e2 : ((ints l).extract 0 l.length).toList = l.map fun x : Nat => (x : Int) := by
      rw [← ints_size l]
      simp [ints]
      exact List.take_of_length_le (by simp)
    rwa [e1, e2] at h2
  have e : d.toList = (srtA l).map fun x : Nat => (x : Int) := by
    refine List.Perm.eq_of_pairwise (le := fun x y : Int => x ≤ y) (fun _ _ _ _ h1 h2 => by omega) ?_ ?_ (hperm.trans ((srtA_perm l).symm.map _))
    · rw [List.pairwise_iff_getElem]
      intro i j hi hj hij
      have hi2 : i < d.size := by simpa using hi
      have hj2 : j < d.size := by simpa using hj
      have h3 := hs i j (Nat.zero_le _) hij (by rw [ints_size]; omega)
      rw [getElem!_pos d j hj2, getElem!_pos d i hi2] at h3
      simp only [ltInt, decide_eq_false_iff_not] at h3
      simp only [Array.getElem_toList]
      omega
    · exact (srtA_up l).map _ (fun a b h => by omega)
  apply Array.ext'
  rw [e]
  simp [ints]

theorem uinsert_nil (p : Option Addr) (c : Nat) (w : World) : Calls Try.prog 48 #[.slice p 0 c, .int .i64 0, .int .i64 0] w fun e w' => e = .returned (.tuple #[]) ∧ w' = w := by
  go_enter Try.func48, Try.ntmps48
  go_wp2
  go_loopw [6] (fun vi wr => vi = .int .i64 1 ∧ wr = w) (fun _ _ => 0)
  case atStart => exact ⟨rfl, rfl⟩
  case round =>
    obtain ⟨rfl, rfl⟩ := hrel
    go_wp2
    go_end0
    exact ⟨rfl, rfl⟩
theorem upd_nil (p : Option Addr) (c : Nat) (w : World) : Calls Try.prog 34 #[.slice p 0 c, .int .i64 0, .int .i64 0, .int .i64 0] w fun e w' => e = .returned (.tuple #[]) ∧ w' = w := by
  have HI := hid (fun V => uinsert_nil p c V)
  go_enter Try.func34, Try.ntmps34
  go_wp2
  go_loopw [1, 2, 3, 8, 9] (fun s1 s2 s3 s8 s9 wr => s1 = .int .i64 0 ∧ s2 = .int .i64 0 ∧ s3 = .int .i64 0 ∧ s8 = .bool true ∧ s9 = .bool true ∧ wr = w) (fun _ _ _ _ _ _ => 0)
  case atStart => exact ⟨rfl, rfl, rfl, rfl, rfl, rfl⟩
  case round =>
    obtain ⟨rfl, rfl, rfl, rfl, rfl, rfl⟩ := hrel
    go_wp2_with (go_at_call 48; refine (HI.out _).mono ?_; rintro e w1 ⟨rfl, hw1⟩)
    (try simp only [Exit.inBlock, Exit.then])
    refine bodyPost_ret (results_none rfl _ _ _) rfl ?_
    exact ⟨rfl, by first | rfl | exact hw1⟩

theorem ulen_any (n : Nat) (hn : n < 4611686018427387904) (w : World) : Calls Try.prog 35 #[.int .u64 (n : Int)] w fun e w' => e = .returned (.int .i64 (bitsLen n : Nat)) ∧ w' = w := by
  have h := Any.bits_Len (SlLaysF0.n15.bits Try.layLen) (n : Int) w (by omega) (by omega)
  rwa [Int.toNat_natCast, bitLen_eq _ (by omega)] at h

set_option maxHeartbeats 2000000 in
set_option maxRecDepth 100000 in
theorem sortA_any {w0 w : World} {p : Option Addr} {c : Nat} {l : List Nat} (h : RowE ElemA w0 w (.slice p l.length c) l) (hl : l.length ≤ 100000) :
    Calls Try.prog 20 #[.slice p l.length c] w fun e w' => e = .returned (.tuple #[]) ∧ RowE ElemA w0 w' (.slice p (srtA l).length c) (srtA l) := by
  have hu := fun V => ulen_any l.length (by omega) V
  have hw : IntKind.u64.wrap (l.length : Int) = (l.length : Int) := by simp [IntKind.wrap, IntKind.bits, IntKind.signed]; omega
  have HU := hid hu
  clear hu
  by_cases h0 : l = []
  · subst h0
    have HN := hid (fun V => upd_nil p c V)
    have HR := hid h
    clear h hw
    have e0 : bitsLen ([] : List Nat).length = 0 := rfl
    go_enter Try.func20, Try.ntmps20
    go_wp2_with fail
    refine (HU.out _).mono ?_
    rintro e w1 ⟨rfl, hw1⟩
    rw [e0, hw1]
    go_wp2_with fail
    refine (HN.out _).mono ?_
    rintro e w2 ⟨rfl, hw2⟩
    rw [hw2]
    go_wp2
    go_end0
    exact ⟨rfl, HR.out⟩
  · have hpos : 0 < l.length := List.length_pos_iff.2 h0
    obtain ⟨g, rfl, hlo, R⟩ := h.holdsU hpos
    have hb : bitsLen l.length ≤ 62 := (bitsLen_le_iff l.length 62).2 (by omega)
    have hc := upd_any (c := c) (N := l.length) R (ints_size l) (by omega) (l.length + 1) 0 l.length (bitsLen l.length) (ints l) w (by omega) (Nat.zero_le _) (Nat.le_refl _) (ints_size l) (by omega) (SW.start R.holds) (.inl rfl)
    have hlen : (srtA l).length = l.length := (srtA_perm l).length_eq
    have HC := hid hc
    have HH := hid h
    have HE := hid hlen
    clear hc h h0 R hlo hlen
    go_enter Try.func20, Try.ntmps20
    go_wp2_with fail
    refine (HU.out _).mono ?_
    rintro e w1 ⟨rfl, hw1⟩
    rw [hw1]
    go_wp2_with fail
    refine HC.out.mono ?_
    rintro e w2 ⟨rfl, d', s2, p2, q2⟩
    have hd := sorted_ints (l := l) (d := d') (by rw [ints_size]; exact p2) (by rw [ints_size]; exact q2)
    rw [hd] at s2
    go_wp2
    go_end0
    exact ⟨rfl, HH.out.sortedU HE.out s2⟩
end Go.Proofs.Ytablffjhipgfbaa
end
