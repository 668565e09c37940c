/- The laws of layer 7, walked. -/
import Derived.Test.YtgkephjjdcppeaaCloM
namespace Go.Proofs.Ytgkephjjdcppeaa
open Go.RowKit

set_option maxRecDepth 100000 in
theorem law_reckons (a b c : Int) (w : World) :
    Calls Try.prog 3 #[.int .i64 a, .int .i64 b, .int .i64 c] w fun e w' => e = .returned (.bool true) ∧ w = w' := by
  have HA := Lib.hid (fun V => awake_any V)
  have H1 := Lib.hid (fun V => add_any a b V)
  have H2 := Lib.hid (fun V => radd_any a b V)
  have H3 := Lib.hid (fun V => left_any a b V)
  have H4 := Lib.hid (fun V => rleft_any a b V)
  have H5 := Lib.hid (fun V => past_any a b c V)
  have H6 := Lib.hid (fun V => rpast_any a b c V)
  have H7 := Lib.hid (fun V => at_any a b V)
  have H8 := Lib.hid (fun V => rat_any a b V)
  generalize addV a b = x at *
  generalize leftV a b = y at *
  generalize pastV a b c = z at *
  have s1 : ((x : Int) == x) = true := by simp
  have s2 : ((y : Int) == y) = true := by simp
  have s3 : (z == z) = true := by simp
  go_enter Try.func3, Try.ntmps3
  go_wp2_with fail
  refine (HA.out _).mono ?_
  rintro e w' ⟨rfl, rfl⟩
  go_wp2_with fail
  refine (H1.out _).mono ?_
  rintro e w' ⟨rfl, rfl⟩
  go_wp2_with fail
  refine (H2.out _).mono ?_
  rintro e w' ⟨rfl, rfl⟩
  go_wp2_with fail
  refine (H3.out _).mono ?_
  rintro e w' ⟨rfl, rfl⟩
  go_wp2_with fail
  refine (H4.out _).mono ?_
  rintro e w' ⟨rfl, rfl⟩
  go_wp2_with fail
  refine (H5.out _).mono ?_
  rintro e w' ⟨rfl, rfl⟩
  go_wp2_with fail
  refine (H6.out _).mono ?_
  rintro e w' ⟨rfl, rfl⟩
  go_wp2_with fail
  refine (H7.out _).mono ?_
  rintro e w' ⟨rfl, rfl⟩
  go_wp2_with fail
  refine (H8.out _).mono ?_
  rintro e w' ⟨rfl, rfl⟩
  go_wp2
  go_ret
  exact ⟨by simp, rfl⟩

theorem heap_size_alloc (w : World) (o : Obj) : (w.alloc o).heap.size = w.heap.size + 1 := by
  show (w.heap.push o).size = _
  exact Array.size_push _

theorem moV_mono {a b : Int} (h : a ≤ b) : moV a ≤ moV b := by unfold moV limV; omega
theorem moV_id {a : Int} (h : 0 ≤ a) (h' : a ≤ 1099511627776) : moV a = a := by unfold moV limV; omega

theorem addV_mono {t t' d d' : Int} (h : t ≤ t') (h' : d ≤ d') : addV t d ≤ addV t' d' := by
  have := moV_mono h
  have : limV d (-1099511627776) 1099511627776 ≤ limV d' (-1099511627776) 1099511627776 := by unfold limV; omega
  unfold addV
  exact moV_mono (by omega)
theorem addV_range (t d : Int) : 0 ≤ addV t d ∧ addV t d ≤ 1099511627776 := moV_range _
theorem addV_in {t d : Int} (h0 : 0 ≤ t) (h1 : t ≤ 1099511627776) (h2 : -1099511627776 ≤ d) (h3 : d ≤ 1099511627776) (h4 : 0 ≤ t + d) (h5 : t + d ≤ 1099511627776) : addV t d = t + d := by
  unfold addV
  rw [moV_id h0 h1, show limV d (-1099511627776) 1099511627776 = d by unfold limV; omega, moV_id h4 h5]
theorem leftV_in {n u : Int} (h0 : 0 ≤ n) (h1 : n ≤ 1099511627776) (h2 : 0 ≤ u) (h3 : u ≤ 1099511627776) : leftV n u = max (u - n) 0 := by
  unfold leftV
  rw [moV_id h0 h1, moV_id h2 h3]
theorem pastV_bare {n u : Int} : pastV n u 0 = decide (moV u < moV n) := by
  unfold pastV
  rw [show limV 0 0 1099511627776 = 0 from rfl, Int.add_zero]

set_option maxRecDepth 100000 in
theorem law_left (n s : Int) (w : World) :
    Calls Try.prog 7 #[.int .i64 n, .int .i64 s] w fun e w' => e = .returned (.bool true) ∧ w = w' := by
  have HA := Lib.hid (fun V => awake_any V)
  by_cases hok : 0 ≤ n ∧ n ≤ 274877906944 ∧ 0 ≤ s ∧ s ≤ 274877906944
  · obtain ⟨g1, g2, g3, g4⟩ := hok
    have hd1 : decide (n < 0) = false := by simp; omega
    have hd2 : decide (274877906944 < n) = false := by simp; omega
    have hd3 : decide (s < 0) = false := by simp; omega
    have hd4 : decide (274877906944 < s) = false := by simp; omega
    have H1 := Lib.hid (fun V => add_any n s V)
    have H2 := Lib.hid (fun V => left_any n (n + s) V)
    have H3 := Lib.hid (fun V => left_any (n + s) n V)
    have H4 := Lib.hid (fun V => past_any (n + s) (n + s) 0 V)
    have H5 := Lib.hid (fun V => past_any (n + s + 1) (n + s) 0 V)
    have H6 := Lib.hid (fun V => left_any (n + s) (n + s) V)
    rw [addV_in g1 (by omega) (by omega) (by omega) (by omega) (by omega)] at H1
    rw [show leftV n (n + s) = s by rw [leftV_in] <;> omega] at H2
    rw [show leftV (n + s) n = 0 by rw [leftV_in] <;> omega] at H3
    rw [show pastV (n + s) (n + s) 0 = false by rw [pastV_bare]; simp] at H4
    rw [show pastV (n + s + 1) (n + s) 0 = true by rw [pastV_bare, moV_id (by omega) (by omega), moV_id (by omega) (by omega)]; simp; omega] at H5
    rw [show leftV (n + s) (n + s) = 0 by rw [leftV_in] <;> omega] at H6
    have h0 : 0 ≤ n + s := by omega
    have h1 : n + s ≤ 549755813888 := by omega
    have s1 : (s == s) = true := by simp
    generalize n + s = x at *
    go_enter Try.func7, Try.ntmps7
    go_wp2_with fail
    refine (HA.out _).mono ?_
    rintro e w' ⟨rfl, rfl⟩
    go_wp2_with fail
    refine (H1.out _).mono ?_
    rintro e w' ⟨rfl, rfl⟩
    go_wp2_with fail
    refine (H2.out _).mono ?_
    rintro e w' ⟨rfl, rfl⟩
    go_wp2_with fail
    refine (H3.out _).mono ?_
    rintro e w' ⟨rfl, rfl⟩
    go_wp2_with fail
    refine (H4.out _).mono ?_
    rintro e w' ⟨rfl, rfl⟩
    go_wp2_with fail
    refine (H5.out _).mono ?_
    rintro e w' ⟨rfl, rfl⟩
    go_wp2_with fail
    refine (H6.out _).mono ?_
    rintro e w' ⟨rfl, rfl⟩
    go_wp2
    go_ret
    exact ⟨by simp, rfl⟩
  · have hor : decide (n < 0) = true ∨ (decide (n < 0) = false ∧ decide (274877906944 < n) = true) ∨ (decide (n < 0) = false ∧ decide (274877906944 < n) = false ∧ decide (s < 0) = true) ∨ (decide (n < 0) = false ∧ decide (274877906944 < n) = false ∧ decide (s < 0) = false ∧ decide (274877906944 < s) = true) := by
      simp only [decide_eq_true_eq, decide_eq_false_iff_not]
      omega
    clear hok
    rcases hor with h1 | ⟨h1, h2⟩ | ⟨h1, h2, h3⟩ | ⟨h1, h2, h3, h4⟩
    all_goals
      go_enter Try.func7, Try.ntmps7
      go_wp2_with fail
      refine (HA.out _).mono ?_
      rintro e w' ⟨rfl, rfl⟩
      go_wp2
      go_ret
      exact ⟨rfl, rfl⟩

set_option maxRecDepth 100000 in
theorem law_off (n a b : Int) (w : World) :
    Calls Try.prog 6 #[.int .i64 n, .int .i64 a, .int .i64 b] w fun e w' => e = .returned (.bool true) ∧ w = w' := by
  have HA := Lib.hid (fun V => awake_any V)
  by_cases hok : 1000 ≤ n ∧ n ≤ 549755813888 ∧ -1000 ≤ a ∧ a ≤ 1000 ∧ -1000 ≤ b ∧ b ≤ 1000
  · obtain ⟨g1, g2, g3, g4, g5, g6⟩ := hok
    have hd1 : decide (n < 1000) = false := by simp; omega
    have hd2 : decide (549755813888 < n) = false := by simp; omega
    have hd3 : decide (a < -1000) = false := by simp; omega
    have hd4 : decide (1000 < a) = false := by simp; omega
    have hd5 : decide (b < -1000) = false := by simp; omega
    have hd6 : decide (1000 < b) = false := by simp; omega
    have H1 := Lib.hid (fun V => at_any n a V)
    have H2 := Lib.hid (fun V => at_any n b V)
    have H3 := Lib.hid (fun V => add_any (n + a) (-a) V)
    have H4 := Lib.hid (fun V => left_any (n + a) (n + b) V)
    rw [addV_in (by omega) (by omega) (by omega) (by omega) (by omega) (by omega)] at H1 H2
    rw [show addV (n + a) (-a) = n by rw [addV_in] <;> omega] at H3
    rw [show leftV (n + a) (n + b) = max (b - a) 0 by rw [leftV_in] <;> omega] at H4
    have s1 : (n + a - (n + b) == a - b) = true := by simp; omega
    have s2 : (n == n) = true := by simp
    have h0 : 0 ≤ n + a := by omega
    have h1 : n + a ≤ 549755814888 := by omega
    have h2 : 0 ≤ n + b := by omega
    have h3 : n + b ≤ 549755814888 := by omega
    generalize n + a = x at *
    generalize n + b = y at *
    have hc : (0 < b - a ∧ max (b - a) 0 = b - a) ∨ (b - a ≤ 0 ∧ max (b - a) 0 = 0) := by omega
    have s3 : (max (b - a) 0 == max (b - a) 0) = true := by simp
    rcases hc with ⟨c1, c2⟩ | ⟨c1, c2⟩
    all_goals
      rw [c2] at H4 s3
      clear c2
      go_enter Try.func6, Try.ntmps6
      go_wp2_with fail
      refine (HA.out _).mono ?_
      rintro e w' ⟨rfl, rfl⟩
      go_wp2_with fail
      refine (H1.out _).mono ?_
      rintro e w' ⟨rfl, rfl⟩
      go_wp2_with fail
      refine (H2.out _).mono ?_
      rintro e w' ⟨rfl, rfl⟩
      go_wp2_with fail
      refine (H3.out _).mono ?_
      rintro e w' ⟨rfl, rfl⟩
      go_wp2_with fail
      refine (H4.out _).mono ?_
      rintro e w' ⟨rfl, rfl⟩
      go_wp2
      all_goals
        go_ret
        exact ⟨by (simp <;> omega), rfl⟩
  · have hor : decide (n < 1000) = true ∨ (decide (n < 1000) = false ∧ decide (549755813888 < n) = true) ∨ (decide (n < 1000) = false ∧ decide (549755813888 < n) = false ∧ decide (a < -1000) = true) ∨ (decide (n < 1000) = false ∧ decide (549755813888 < n) = false ∧ decide (a < -1000) = false ∧ decide (1000 < a) = true) ∨ (decide (n < 1000) = false ∧ decide (549755813888 < n) = false ∧ decide (a < -1000) = false ∧ decide (1000 < a) = false ∧ decide (b < -1000) = true) ∨ (decide (n < 1000) = false ∧ decide (549755813888 < n) = false ∧ decide (a < -1000) = false ∧ decide (1000 < a) = false ∧ decide (b < -1000) = false ∧ decide (1000 < b) = true) := by
      simp only [decide_eq_true_eq, decide_eq_false_iff_not]
      omega
    clear hok
    rcases hor with h1 | ⟨h1, h2⟩ | ⟨h1, h2, h3⟩ | ⟨h1, h2, h3, h4⟩ | ⟨h1, h2, h3, h4, h5⟩ | ⟨h1, h2, h3, h4, h5, h6⟩
    all_goals
      go_enter Try.func6, Try.ntmps6
      go_wp2_with fail
      refine (HA.out _).mono ?_
      rintro e w' ⟨rfl, rfl⟩
      go_wp2
      go_ret
      exact ⟨rfl, rfl⟩

set_option maxRecDepth 100000 in
set_option maxHeartbeats 1000000 in
theorem law_rises (t0 t1 d0 d1 : Int) (w : World) :
    Calls Try.prog 4 #[.agg #[.int .i64 t0, .int .i64 t1], .agg #[.int .i64 d0, .int .i64 d1]] w fun e w' => e = .returned (.bool true) ∧ Below w.heap.size w w' := by
  obtain ⟨w1, hw1⟩ : ∃ w1, w1 = w.alloc (.cells #[.int .i64 t0, .int .i64 t1] 25) := ⟨_, rfl⟩
  obtain ⟨w0, hw0⟩ : ∃ w0, w0 = w1.alloc (.cells #[.int .i64 d0, .int .i64 d1] 25) := ⟨_, rfl⟩
  have hz : w1.heap.size = w.heap.size + 1 := by rw [hw1]; exact heap_size_alloc w _
  have HB0 : Hid (Below w.heap.size w w0) := Lib.hid (by rw [hw0, hw1]; exact ((Below.refl _ _).alloc (Nat.le_refl _) _).alloc (Nat.le_trans (Nat.le_succ _) (Nat.le_of_eq (heap_size_alloc w _).symm)) _)
  have hbx : w1.heap[w.heap.size]? = some (.cells #[.int .i64 t0, .int .i64 t1] 25 (0, 0)) := by rw [hw1]; exact heap_alloc_new w _
  have hby : w0.heap[w.heap.size]? = some (.cells #[.int .i64 t0, .int .i64 t1] 25 (0, 0)) := by rw [hw0, heap_alloc_old w1 _ (by omega)]; exact hbx
  have hbz : w0.heap[w.heap.size + 1]? = some (.cells #[.int .i64 d0, .int .i64 d1] 25 (0, 0)) := by rw [← hz, hw0]; exact heap_alloc_new w1 _
  have c0 := cell_of_row w0 w.heap.size 0 _ _ _ hby
  have c1 := cell_of_row w0 w.heap.size 1 _ _ _ hby
  have c2 := cell_of_row w0 (w.heap.size + 1) 0 _ _ _ hbz
  have c3 := cell_of_row w0 (w.heap.size + 1) 1 _ _ _ hbz
  simp at c0 c1 c2 c3
  rw [hw1] at hw0
  have HW0 := Lib.hid hw0
  clear hw0 hbx hby hbz hw1 hz
  have HA := Lib.hid (fun V => awake_any V)
  by_cases ht : t1 < t0
  · have hd : decide (t1 < t0) = true := decide_eq_true ht
    clear ht
    go_enter Try.func4, Try.ntmps4
    go_wp2_with fail
    rw [← HW0.out]
    refine (HA.out _).mono ?_
    rintro e w' ⟨rfl, rfl⟩
    go_wp2
    go_ret
    exact ⟨rfl, HB0.out⟩
  have hd1 : decide (t1 < t0) = false := decide_eq_false ht
  by_cases hs : d1 < d0
  · have hd : decide (d1 < d0) = true := decide_eq_true hs
    clear ht hs
    go_enter Try.func4, Try.ntmps4
    go_wp2_with fail
    rw [← HW0.out]
    refine (HA.out _).mono ?_
    rintro e w' ⟨rfl, rfl⟩
    go_wp2
    go_ret
    exact ⟨rfl, HB0.out⟩
  have hd2 : decide (d1 < d0) = false := decide_eq_false hs
  have H1 := Lib.hid (fun V => add_any t0 d0 V)
  have H2 := Lib.hid (fun V => add_any t1 d1 V)
  have H3 := Lib.hid (fun V => left_any t0 d0 V)
  have H4 := Lib.hid (fun V => left_any t1 d0 V)
  have r1 : addV t0 d0 ≤ addV t1 d1 := addV_mono (Int.not_lt.1 ht) (Int.not_lt.1 hs)
  have r2 := addV_range t0 d0
  have r3 := addV_range t1 d1
  have r4 : leftV t1 d0 ≤ leftV t0 d0 := by
    have := moV_mono (Int.not_lt.1 ht)
    unfold leftV
    omega
  have r5 : 0 ≤ leftV t1 d0 := by unfold leftV; omega
  have r6 : leftV t0 d0 ≤ 1099511627776 := by
    have := moV_range d0
    have := moV_range t0
    unfold leftV
    omega
  generalize addV t0 d0 = k at *
  generalize addV t1 d1 = m at *
  generalize leftV t0 d0 = p at *
  generalize leftV t1 d0 = q at *
  have e1 : decide (k ≤ m) = true := decide_eq_true r1
  have e2 : decide (0 ≤ k) = true := decide_eq_true r2.1
  have e3 : decide (m ≤ 1099511627776) = true := decide_eq_true r3.2
  have e4 : decide (q ≤ p) = true := decide_eq_true r4
  have e5 : decide (0 ≤ q) = true := decide_eq_true r5
  have e6 : decide (p ≤ 1099511627776) = true := decide_eq_true r6
  clear r1 r2 r3 r4 r5 r6 ht hs
  go_enter Try.func4, Try.ntmps4
  go_wp2_with fail
  rw [← HW0.out]
  refine (HA.out _).mono ?_
  rintro e w' ⟨rfl, rfl⟩
  go_wp2_with fail
  refine (H1.out _).mono ?_
  rintro e w' ⟨rfl, rfl⟩
  go_wp2_with fail
  refine (H2.out _).mono ?_
  rintro e w' ⟨rfl, rfl⟩
  go_wp2_with fail
  refine (H3.out _).mono ?_
  rintro e w' ⟨rfl, rfl⟩
  go_wp2_with fail
  refine (H4.out _).mono ?_
  rintro e w' ⟨rfl, rfl⟩
  go_wp2
  go_ret
  exact ⟨rfl, HB0.out⟩

set_option maxRecDepth 100000 in
set_option maxHeartbeats 1000000 in
theorem law_past (x0 x1 u g : Int) (w : World) :
    Calls Try.prog 5 #[.agg #[.int .i64 x0, .int .i64 x1], .int .i64 u, .int .i64 g] w fun e w' => e = .returned (.bool true) ∧ Below w.heap.size w w' := by
  obtain ⟨w0, hw0⟩ : ∃ w0, w0 = w.alloc (.cells #[.int .i64 x0, .int .i64 x1] 25) := ⟨_, rfl⟩
  have HB0 : Hid (Below w.heap.size w w0) := Lib.hid (by rw [hw0]; exact (Below.refl _ _).alloc (Nat.le_refl _) _)
  have hbx : w0.heap[w.heap.size]? = some (.cells #[.int .i64 x0, .int .i64 x1] 25 (0, 0)) := by rw [hw0]; exact heap_alloc_new w _
  have c0 := cell_of_row w0 w.heap.size 0 _ _ _ hbx
  have c1 := cell_of_row w0 w.heap.size 1 _ _ _ hbx
  simp at c0 c1
  have HW0 := Lib.hid hw0
  clear hw0 hbx
  have HA := Lib.hid (fun V => awake_any V)
  by_cases ht : x1 < x0
  · have hd : decide (x1 < x0) = true := decide_eq_true ht
    clear ht
    go_enter Try.func5, Try.ntmps5
    go_wp2_with fail
    rw [← HW0.out]
    refine (HA.out _).mono ?_
    rintro e w' ⟨rfl, rfl⟩
    go_wp2
    go_ret
    exact ⟨rfl, HB0.out⟩
  have hd1 : decide (x1 < x0) = false := decide_eq_false ht
  have H1 := Lib.hid (fun V => past_any x0 u g V)
  have H2 := Lib.hid (fun V => past_any x1 u g V)
  have H3 := Lib.hid (fun V => past_any x0 u 0 V)
  have H4 := Lib.hid (fun V => add_any x0 g V)
  have H5 := Lib.hid (fun V => past_any x0 (addV x0 g) 0 V)
  have H6 := Lib.hid (fun V => left_any x0 u V)
  have r1 : pastV x0 u g = true → pastV x1 u g = true ∧ pastV x0 u 0 = true := by
    have := moV_mono (Int.not_lt.1 ht)
    have := limV_range g 0 1099511627776 (by omega)
    rw [pastV_bare]
    unfold pastV
    simp only [decide_eq_true_eq]
    omega
  have r2 : pastV x0 (addV x0 g) 0 = true → g < 0 := by
    rw [pastV_bare]
    simp only [decide_eq_true_eq]
    intro h
    have a := addV_range x0 g
    rw [moV_id a.1 a.2] at h
    unfold addV at h
    have b := moV_range x0
    by_cases c : g < 0
    · exact c
    · exfalso
      have : 0 ≤ limV g (-1099511627776) 1099511627776 := by unfold limV; omega
      have d := moV_mono (show moV x0 ≤ moV x0 + limV g (-1099511627776) 1099511627776 by omega)
      rw [moV_id b.1 b.2] at d
      omega
  have r3 : pastV x0 u 0 = true → leftV x0 u = 0 := by
    rw [pastV_bare]
    unfold leftV
    simp only [decide_eq_true_eq]
    omega
  generalize pastV x0 u g = one at *
  generalize pastV x1 u g = two at *
  generalize pastV x0 u 0 = bare at *
  generalize pastV x0 (addV x0 g) 0 = off at *
  generalize addV x0 g = k at *
  generalize leftV x0 u = l at *
  have e1 : one = false ∨ (one = true ∧ two = true ∧ bare = true) := by
    cases h : one
    · exact .inl rfl
    · exact .inr ⟨rfl, r1 h⟩
  have e2 : off = false ∨ (off = true ∧ decide (g < 0) = true) := by
    cases h : off
    · exact .inl rfl
    · exact .inr ⟨rfl, decide_eq_true (r2 h)⟩
  have e3 : (l == 0) = true ∨ ((l == 0) = false ∧ bare = false) := by
    cases h : (l == 0)
    · refine .inr ⟨rfl, ?_⟩
      cases hb : bare
      · rfl
      · have := r3 hb
        rw [this] at h
        cases h
    · exact .inl rfl
  clear r1 r2 r3 ht
  rcases e1 with rfl | ⟨rfl, rfl, rfl⟩
  all_goals rcases e2 with rfl | ⟨rfl, e2⟩
  all_goals rcases e3 with e3 | ⟨e3, e4⟩
  all_goals try cases e4
  all_goals
    go_enter Try.func5, Try.ntmps5
    go_wp2_with fail
    rw [← HW0.out]
    refine (HA.out _).mono ?_
    rintro e w' ⟨rfl, rfl⟩
    go_wp2_with fail
    refine (H1.out _).mono ?_
    rintro e w' ⟨rfl, rfl⟩
    go_wp2_with fail
    refine (H2.out _).mono ?_
    rintro e w' ⟨rfl, rfl⟩
    go_wp2_with fail
    refine (H3.out _).mono ?_
    rintro e w' ⟨rfl, rfl⟩
    go_wp2_with fail
    refine (H4.out _).mono ?_
    rintro e w' ⟨rfl, rfl⟩
    go_wp2_with fail
    refine (H5.out _).mono ?_
    rintro e w' ⟨rfl, rfl⟩
    go_wp2_with fail
    refine (H6.out _).mono ?_
    rintro e w' ⟨rfl, rfl⟩
    go_wp2
    go_ret
    exact ⟨by simp, HB0.out⟩
end Go.Proofs.Ytgkephjjdcppeaa
