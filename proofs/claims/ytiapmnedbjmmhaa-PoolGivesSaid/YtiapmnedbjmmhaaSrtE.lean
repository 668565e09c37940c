/- The library's plain sort at addresses: which place is chosen to part a row at; how many exchanges that would have been. -/
import Derived.Sort.LotD4
import Derived.Test.YtiapmnedbjmmhaaSrtB
namespace Go.Proofs.Ytiapmnedbjmmhaa
open Go.Shelf Go.RowKit Go.Lib Go.Sort

/-- The row holds d, and block g, made since, the number s. -/
structure CntU (w0 : World) (b o : Nat) (d : Array Int) (g s : Nat) (W : World) : Prop where
  sw : SW enU w0 b o d W
  cell : W.cell? ⟨g, 0, none⟩ = some (.int .i64 s)
  free : W.frozen? ⟨g, 0, none⟩ = false
  new : w0.heap.size ≤ g
  lt : g < W.heap.size
section
variable {w0 W : World} {b o g s : Nat} {d0 d : Array Int}
theorem CntU.drewN (h : CntU w0 b o d g s W) (q : Nat) : CntU w0 b o d g s (W.drewN q) := ⟨h.sw.drewN q, h.cell, h.free, h.new, h.lt⟩
theorem CntU.bump (h : CntU w0 b o d g s W) (t : Nat) : CntU w0 b o d g t (W.setCell ⟨g, 0, none⟩ (.int .i64 t)) :=
  ⟨h.sw.setCell_new g 0 _ h.new, World.cell?_setCell_same' _ _ _ (by rw [h.cell]; rfl), by rw [World.frozen?_setCell]; exact h.free, h.new, by simpa using h.lt⟩
theorem CntU.start (h : SW enU w0 b o d W) (T : TypeId) : CntU w0 b o d W.heap.size 0 (W.alloc (.cells #[.int .i64 0] T)) := ⟨h.alloc _, by simp, by simp, h.le, by simp⟩
end

theorem order_lt (d : Array Int) {x y n : Nat} (s : Nat) (hx : x < n) (hy : y < n) : (order2 ltInt d x y s).1 < n ∧ (order2 ltInt d x y s).2.1 < n := by
  rcases order2_mem ltInt d x y s with h | h <;> (rw [h.1, h.2]; exact ⟨by assumption, by assumption⟩)

set_option maxHeartbeats 4000000 in
set_option maxRecDepth 100000 in
theorem uorder_any {w0 w : World} {b o c g s : Nat} {d0 d : Array Int} {x y : Nat} (R : RowU w0 b o d0) (hs : d.size = d0.size) (C : CntU w0 b o d g s w) (h1 : x < d.size) (h2 : y < d.size) (hs2 : s < 1000) :
    Calls Try.prog 53 #[.slice (some ⟨b, o, none⟩) d.size c, .int .i64 x, .int .i64 y, .pointer (some ⟨g, 0, none⟩)] w fun e w' => e = .returned (.tuple #[.int .i64 (order2 ltInt d x y s).1, .int .i64 (order2 ltInt d x y s).2.1]) ∧ CntU w0 b o d g (order2 ltInt d x y s).2.2 w' := by
  obtain ⟨N, hN⟩ : ∃ N, N = d.size := ⟨_, rfl⟩
  rw [← hN] at h1 h2 ⊢
  have hs0 : Hid (d0.size = N) := hid (by omega)
  have hk : Hid (d.size = N) := hid hN.symm
  have HL := hid (fun V x y => uless_any x y V)
  obtain ⟨G, HG, hc, hf⟩ := fam C.sw R hs0.out hk.out
  have CC := hid C
  clear R hs hN C
  go_enter Try.func53, Try.ntmps53
  have cc := CC.out.cell
  have cf := CC.out.free
  have ew : IntKind.i64.wrap ((s : Int) + 1) = ((s + 1 : Nat) : Int) := by rw [IntKind.wrap_i64]; omega
  go_wp2_with fail
  go_quiet (first | (go_at_call 40; refine Calls.quiet_of_same (HL.out _ _ _)))
  have CQ := hid (CC.out.drewN nq)
  go_wp2
  · have hl : ltInt (G y) (G x) = true := by assumption
    have e : order2 ltInt d x y s = (y, x, s + 1) := by
      unfold order2
      rw [← HG.out, ← HG.out, hl]
      rfl
    go_ret2
    rw [e]
    exact ⟨rfl, CQ.out.bump (s + 1)⟩
  · have hl : ltInt (G y) (G x) = false := by assumption
    have e : order2 ltInt d x y s = (x, y, s) := by
      unfold order2
      rw [← HG.out, ← HG.out, hl]
      rfl
    go_ret2
    rw [e]
    exact ⟨rfl, CQ.out⟩

set_option maxHeartbeats 4000000 in
set_option maxRecDepth 100000 in
theorem umedian_any {w0 w : World} {b o c g s : Nat} {d0 d : Array Int} {x y z : Nat} (R : RowU w0 b o d0) (hs : d.size = d0.size) (C : CntU w0 b o d g s w) (h1 : x < d.size) (h2 : y < d.size) (h3 : z < d.size) (hs2 : s < 500) :
    Calls Try.prog 51 #[.slice (some ⟨b, o, none⟩) d.size c, .int .i64 x, .int .i64 y, .int .i64 z, .pointer (some ⟨g, 0, none⟩)] w fun e w' => e = .returned (.int .i64 (median ltInt d x y z s).1) ∧ CntU w0 b o d g (median ltInt d x y z s).2 w' := by
  have k1 := order2_count ltInt d x y s
  obtain ⟨l1, m1⟩ := order_lt d s h1 h2
  have c1 := uorder_any (c := c) R hs C h1 h2 (by omega)
  obtain ⟨x1, y1, s1, e1⟩ : ∃ x1 y1 s1, order2 ltInt d x y s = (x1, y1, s1) := ⟨_, _, _, rfl⟩
  rw [e1] at k1 l1 m1 c1
  simp only [] at k1 l1 m1 c1
  have k2 := order2_count ltInt d y1 z s1
  obtain ⟨l2, m2⟩ := order_lt d s1 m1 h3
  have c2 := fun (V : World) (CV : CntU w0 b o d g s1 V) => uorder_any (c := c) R hs CV m1 h3 (by omega)
  obtain ⟨y2, z2, s2, e2⟩ : ∃ y2 z2 s2, order2 ltInt d y1 z s1 = (y2, z2, s2) := ⟨_, _, _, rfl⟩
  rw [e2] at k2 l2 m2 c2
  simp only [] at k2 l2 m2 c2
  have c3 := fun (V : World) (CV : CntU w0 b o d g s2 V) => uorder_any (c := c) R hs CV l1 l2 (by omega)
  obtain ⟨x3, y3, s3, e3⟩ : ∃ x3 y3 s3, order2 ltInt d x1 y2 s2 = (x3, y3, s3) := ⟨_, _, _, rfl⟩
  rw [e3] at c3
  simp only [] at c3
  have e : median ltInt d x y z s = (y3, s3) := by
    unfold median
    simp only [e1, e2, e3]
  rw [e]
  have H1 := hid c1
  have H2 := hid c2
  have H3 := hid c3
  clear c1 c2 c3 R hs C k1 k2 l1 m1 l2 m2 e e1 e2 e3 h1 h2 h3
  go_enter Try.func51, Try.ntmps51
  go_wp2_with fail
  refine H1.out.mono ?_
  rintro e w1 ⟨rfl, h1⟩
  go_wp2_with fail
  refine (H2.out _ h1).mono ?_
  rintro e w2 ⟨rfl, h2⟩
  go_wp2_with fail
  refine (H3.out _ h2).mono ?_
  rintro e w3 ⟨rfl, h3⟩
  go_wp2
  go_ret
  exact ⟨rfl, h3⟩

set_option maxHeartbeats 4000000 in
set_option maxRecDepth 100000 in
theorem umedadj_any {w0 w : World} {b o c g s : Nat} {d0 d : Array Int} {x : Nat} (R : RowU w0 b o d0) (hs : d.size = d0.size) (C : CntU w0 b o d g s w) (h1 : 1 ≤ x) (h2 : x + 1 < d.size) (hz : d.size < 4611686018427387904) (hs2 : s < 500) :
    Calls Try.prog 50 #[.slice (some ⟨b, o, none⟩) d.size c, .int .i64 x, .pointer (some ⟨g, 0, none⟩)] w fun e w' => e = .returned (.int .i64 (medianAdjacent ltInt d x s).1) ∧ CntU w0 b o d g (medianAdjacent ltInt d x s).2 w' := by
  have c1 := umedian_any (c := c) (x := x - 1) (y := x) (z := x + 1) R hs C (by omega) (by omega) h2 hs2
  have e1 : ((x - 1 : Nat) : Int) = (x : Int) - 1 := by omega
  have e2 : ((x + 1 : Nat) : Int) = (x : Int) + 1 := by omega
  rw [e1, e2] at c1
  have H1 := hid c1
  clear c1 R hs C e1 e2
  go_enter Try.func50, Try.ntmps50
  go_wp2_with fail
  refine H1.out.mono ?_
  rintro e w1 ⟨rfl, h1⟩
  go_wp2
  go_ret
  exact ⟨rfl, h1⟩

set_option maxHeartbeats 8000000 in
set_option maxRecDepth 100000 in
theorem upivot_any {w0 w : World} {b o c : Nat} {d0 d : Array Int} {lo hi : Nat} (R : RowU w0 b o d0) (hs : d.size = d0.size) (S : SW enU w0 b o d w) (h1 : lo < hi) (h2 : hi ≤ d.size) (hz : d.size < 4611686018427387904) :
    Calls Try.prog 37 #[.slice (some ⟨b, o, none⟩) d.size c, .int .i64 lo, .int .i64 hi] w fun e w' => e = .returned (.tuple #[.int .i64 (choosePivot ltInt d lo hi).1, .int .i64 (hintCode (choosePivot ltInt d lo hi).2)]) ∧ SW enU w0 b o d w' := by
  have C0 := hid (CntU.start S 3)
  obtain ⟨wa, hwa⟩ : ∃ wa, wa = w.alloc (.cells #[.int .i64 0] 3) := ⟨_, rfl⟩
  rw [← hwa] at C0
  have HWA := hid hwa
  clear hwa
  have MA := hid (fun (V : World) (x s : Nat) (CV : CntU w0 b o d w.heap.size s V) (e1 : 1 ≤ x) (e2 : x + 1 < d.size) (e3 : s < 500) => umedadj_any (c := c) R hs CV e1 e2 hz e3)
  have MD := hid (fun (V : World) (x y z s : Nat) (CV : CntU w0 b o d w.heap.size s V) (e1 : x < d.size) (e2 : y < d.size) (e4 : z < d.size) (e3 : s < 500) => umedian_any (c := c) R hs CV e1 e2 e4 e3)
  rw [choosePivot_eq]
  obtain ⟨N, hN⟩ : ∃ N, N = d.size := ⟨_, rfl⟩
  rw [← hN] at h2 hz MA MD ⊢
  obtain ⟨I, hI⟩ : ∃ I : Nat, I = lo + (hi - lo) / 4 * 1 := ⟨_, rfl⟩
  obtain ⟨J, hJ⟩ : ∃ J : Nat, J = lo + (hi - lo) / 4 * 2 := ⟨_, rfl⟩
  obtain ⟨K, hK⟩ : ∃ K : Nat, K = lo + (hi - lo) / 4 * 3 := ⟨_, rfl⟩
  have eI : ((lo : Int) + ((hi : Int) - (lo : Int)) / 4) = (I : Int) := by omega
  have eJ : ((lo : Int) + ((hi : Int) - (lo : Int)) / 4 * 2) = (J : Int) := by omega
  have eK : ((lo : Int) + ((hi : Int) - (lo : Int)) / 4 * 3) = (K : Int) := by omega
  clear R hs S hN
  by_cases h8 : hi - lo ≥ 8
  · have h8z : (hi : Int) - (lo : Int) ≥ 8 := by omega
    by_cases h50 : hi - lo ≥ 50
    · have h50z : (hi : Int) - (lo : Int) ≥ 50 := by omega
      obtain ⟨i1, s1, e1⟩ : ∃ i1 s1, medianAdjacent ltInt d I 0 = (i1, s1) := ⟨_, _, rfl⟩
      obtain ⟨j1, s2, e2⟩ : ∃ j1 s2, medianAdjacent ltInt d J s1 = (j1, s2) := ⟨_, _, rfl⟩
      obtain ⟨k1, s3, e3⟩ : ∃ k1 s3, medianAdjacent ltInt d K s2 = (k1, s3) := ⟨_, _, rfl⟩
      obtain ⟨p, s4, e4⟩ : ∃ p s4, median ltInt d i1 j1 k1 s3 = (p, s4) := ⟨_, _, rfl⟩
      have hraw : rawPivot ltInt d lo hi = (p, s4) := by simp only [rawPivot, if_pos h8, if_pos h50, ← hI, ← hJ, ← hK, e1, e2, e3, e4]
      rw [hraw]
      have m1 := medianAdjacent_mem ltInt d I 0
      have m2 := medianAdjacent_mem ltInt d J s1
      have m3 := medianAdjacent_mem ltInt d K s2
      have n1 := medianAdjacent_count ltInt d I 0
      have n2 := medianAdjacent_count ltInt d J s1
      have n3 := medianAdjacent_count ltInt d K s2
      rw [e1] at m1 n1
      rw [e2] at m2 n2
      rw [e3] at m3 n3
      simp only [] at m1 m2 m3 n1 n2 n3
      have c1 := fun V CV => MA.out V I 0 CV (by omega) (by omega) (by omega)
      have c2 := fun V CV => MA.out V J s1 CV (by omega) (by omega) (by omega)
      have c3 := fun V CV => MA.out V K s2 CV (by omega) (by omega) (by omega)
      have c4 := fun V CV => MD.out V i1 j1 k1 s3 CV (by omega) (by omega) (by omega) (by omega)
      rw [e1] at c1
      rw [e2] at c2
      rw [e3] at c3
      rw [e4] at c4
      simp only [] at c1 c2 c3 c4
      have H1 := hid c1
      have H2 := hid c2
      have H3 := hid c3
      have H4 := hid c4
      clear c1 c2 c3 c4 MA MD hraw e1 e2 e3 e4 m1 m2 m3 n1 n2 n3 hI hJ hK
      go_enter Try.func37, Try.ntmps37
      go_wp2_with fail
      rw [← HWA.out]
      refine (H1.out _ C0.out).mono ?_
      rintro e w1 ⟨rfl, k1⟩
      go_wp2_with fail
      refine (H2.out _ k1).mono ?_
      rintro e w2 ⟨rfl, k2⟩
      go_wp2_with fail
      refine (H3.out _ k2).mono ?_
      rintro e w3 ⟨rfl, k3⟩
      go_wp2_with fail
      refine (H4.out _ k3).mono ?_
      rintro e w4 ⟨rfl, k4⟩
      have cc := k4.cell
      by_cases z0 : s4 = 0
      · have z0z : (((s4 : Nat) : Int) == 0) = true := by simp; omega
        go_wp2
        go_ret2
        exact ⟨by rw [z0]; rfl, k4.sw⟩
      · have z0z : (((s4 : Nat) : Int) == 0) = false := by simp; omega
        by_cases z1 : s4 = 12
        · have z1z : (((s4 : Nat) : Int) == 12) = true := by simp; omega
          go_wp2
          go_ret2
          exact ⟨by rw [z1]; rfl, k4.sw⟩
        · have z1z : (((s4 : Nat) : Int) == 12) = false := by simp; omega
          have eh : hintOf s4 = .unknown := by unfold hintOf; rw [if_neg z0, if_neg z1]
          go_wp2
          go_ret2
          exact ⟨by rw [eh]; rfl, k4.sw⟩
    · have h50z : ¬ ((hi : Int) - (lo : Int) ≥ 50) := by omega
      obtain ⟨p, s4, e4⟩ : ∃ p s4, median ltInt d I J K 0 = (p, s4) := ⟨_, _, rfl⟩
      have hraw : rawPivot ltInt d lo hi = (p, s4) := by simp only [rawPivot, if_pos h8, if_neg h50, ← hI, ← hJ, ← hK, e4]
      rw [hraw]
      have c4 := fun V CV => MD.out V I J K 0 CV (by omega) (by omega) (by omega) (by omega)
      rw [e4] at c4
      simp only [] at c4
      have H4 := hid c4
      clear c4 MA MD hraw e4 hI hJ hK
      go_enter Try.func37, Try.ntmps37
      go_wp2_with fail
      rw [← HWA.out]
      refine (H4.out _ C0.out).mono ?_
      rintro e w4 ⟨rfl, k4⟩
      have cc := k4.cell
      by_cases z0 : s4 = 0
      · have z0z : (((s4 : Nat) : Int) == 0) = true := by simp; omega
        go_wp2
        go_ret2
        exact ⟨by rw [z0]; rfl, k4.sw⟩
      · have z0z : (((s4 : Nat) : Int) == 0) = false := by simp; omega
        by_cases z1 : s4 = 12
        · have z1z : (((s4 : Nat) : Int) == 12) = true := by simp; omega
          go_wp2
          go_ret2
          exact ⟨by rw [z1]; rfl, k4.sw⟩
        · have z1z : (((s4 : Nat) : Int) == 12) = false := by simp; omega
          have eh : hintOf s4 = .unknown := by unfold hintOf; rw [if_neg z0, if_neg z1]
          go_wp2
          go_ret2
          exact ⟨by rw [eh]; rfl, k4.sw⟩
  · have h8z : ¬ ((hi : Int) - (lo : Int) ≥ 8) := by omega
    have hraw : rawPivot ltInt d lo hi = (J, 0) := by simp only [rawPivot, if_neg h8, ← hJ]
    rw [hraw]
    clear MA MD hraw hI hJ hK
    go_enter Try.func37, Try.ntmps37
    go_wp2
    go_ret2
    exact ⟨rfl, by rw [← HWA.out]; exact C0.out.sw⟩
end Go.Proofs.Ytiapmnedbjmmhaa
