/- The laws of layer 5, walked. -/
import Derived.Test.YtnbokhbhdmkelaaRatU
namespace Go.Proofs.Ytnbokhbhdmkelaa
open Ieee Go.RowKit Flo
attribute [local go_sem ↓] call_bits call_from

set_option maxRecDepth 100000 in
theorem law_parts (n : Int) (a b : Nat) (w : World) :
    Calls Try.prog 3 #[.int .i64 n, .float .f64 a, .float .f64 b] w fun e w' => e = .returned (.bool true) ∧ w = w' := by
  have HA := Lib.hid (fun V => awake_any V)
  have HT := Lib.hid (fun V => times_any n a b V)
  have HR := Lib.hid (fun V => rtimes_any n a b V)
  have HP := Lib.hid (fun V => part_any n a V)
  have HQ := Lib.hid (fun V => rpart_any n a V)
  generalize partV n a = x at *
  generalize max x (partV n b) = y at *
  have s1 : ((x : Int) == x) = true := by simp
  have s2 : ((y : Int) == y) = true := by simp
  go_enter Try.func3, Try.ntmps3
  go_wp2_with fail
  refine (HA.out _).mono ?_
  rintro e w' ⟨rfl, rfl⟩
  go_wp2_with fail
  refine (HT.out _).mono ?_
  rintro e w' ⟨rfl, rfl⟩
  go_wp2_with fail
  refine (HR.out _).mono ?_
  rintro e w' ⟨rfl, rfl⟩
  go_wp2_with fail
  refine (HP.out _).mono ?_
  rintro e w' ⟨rfl, rfl⟩
  go_wp2_with fail
  refine (HQ.out _).mono ?_
  rintro e w' ⟨rfl, rfl⟩
  go_wp2
  go_ret
  exact ⟨by simp, rfl⟩

set_option maxRecDepth 100000 in
theorem law_shares (m o : Int) (p : Nat) (w : World) :
    Calls Try.prog 4 #[.int .i64 m, .int .i64 o, .float .f64 p] w fun e w' => e = .returned (.bool true) ∧ w = w' := by
  have HA := Lib.hid (fun V => awake_any V)
  have HS := Lib.hid (fun V => share_any m o p V)
  have HR := Lib.hid (fun V => rshare_any m o p V)
  generalize shareV m o p = x at *
  obtain ⟨X, Y, ⟨r, hx, hy⟩, hX, hY⟩ := uneven_both m o p
  have HX := Lib.hid hX
  have HY := Lib.hid hY
  clear hX hY
  have s1 : ((x : Int) == x) = true := by simp
  have s2 : ((r : Int) == (r : Int)) = true := by simp
  go_enter Try.func4, Try.ntmps4
  go_wp2_with fail
  refine (HA.out _).mono ?_
  rintro e w' ⟨rfl, rfl⟩
  go_wp2_with fail
  refine (HX.out _).mono ?_
  rintro e w' ⟨rfl, rfl⟩
  go_wp2_with fail
  refine (HY.out _).mono ?_
  rintro e w' ⟨rfl, rfl⟩
  go_wp2_with fail
  refine (HS.out _).mono ?_
  rintro e w' ⟨rfl, rfl⟩
  go_wp2_with fail
  refine (HR.out _).mono ?_
  rintro e w' ⟨rfl, rfl⟩
  go_wp2
  go_ret
  exact ⟨by simp, rfl⟩

set_option maxRecDepth 100000 in
theorem law_gives (m o : Int) (p : Nat) (w : World) :
    Calls Try.prog 6 #[.int .i64 m, .int .i64 o, .float .f64 p] w fun e w' => e = .returned (.bool true) ∧ w = w' := by
  have HA := Lib.hid (fun V => awake_any V)
  by_cases hok : 0 ≤ m ∧ m ≤ 1073741824 ∧ 0 ≤ o ∧ o ≤ 1073741824
  · obtain ⟨m0, m1, o0, o1⟩ := hok
    have HS := Lib.hid (fun V => share_any m o p V)
    have HP := Lib.hid (fun V => part_any (m + o) p V)
    have hs : shareV m o p = min (max (partV (m + o) p - o) 0) m := by
      unfold shareV
      rw [show bnd m = m by unfold bnd; omega, show bnd o = o by unfold bnd; omega]
    obtain ⟨c0, c1⟩ := part_range (m + o) p
    generalize partV (m + o) p = x at *
    generalize shareV m o p = y at *
    have hd1 : decide (m < 0) = false := by simp; omega
    have hd2 : decide (1073741824 < m) = false := by simp; omega
    have hd3 : decide (o < 0) = false := by simp; omega
    have hd4 : decide (1073741824 < o) = false := by simp; omega
    have y0 : 0 ≤ y := by omega
    have y1 : y ≤ m := by omega
    have hd5 : decide (y < 0) = false := by simp; omega
    have hd6 : decide (m < y) = false := by simp; omega
    have f1 : 0 < y → y + o ≤ x := by omega
    have f2 : y = m ∨ x ≤ o + y := by omega
    have F2 := Lib.hid f2
    clear hs f2
    have hd8 : (decide (0 < y) && decide (x < o + y)) = false := by
      by_cases c : 0 < y
      · rw [decide_eq_true c]; simp; omega
      · rw [decide_eq_false c]; rfl
    have hd9 : ((y == m) || decide (x ≤ o + y)) = true := by
      rcases F2.out with c | c
      · simp [c]
      · simp [c]
    by_cases cy : 0 < y
    · have hd7 : decide (0 < y) = true := decide_eq_true cy
      have hda : decide (x < o + y) = false := by simp; omega
      have F1 := Lib.hid f1
      clear f1
      cases he : (y == m)
      · have hdb : decide (x ≤ o + y) = true := by
          have : y ≠ m := by simpa using he
          rcases F2.out with c | c
          · exact absurd c this
          · exact decide_eq_true c
        clear hd8 hd9
        go_enter Try.func6, Try.ntmps6
        go_wp2_with fail
        refine (HA.out _).mono ?_
        rintro e w' ⟨rfl, rfl⟩
        go_wp2_with fail
        refine (HS.out _).mono ?_
        rintro e w' ⟨rfl, rfl⟩
        go_wp2_with fail
        refine (HP.out _).mono ?_
        rintro e w' ⟨rfl, rfl⟩
        go_wp2
        go_ret
        exact ⟨rfl, rfl⟩
      · clear hd8 hd9
        go_enter Try.func6, Try.ntmps6
        go_wp2_with fail
        refine (HA.out _).mono ?_
        rintro e w' ⟨rfl, rfl⟩
        go_wp2_with fail
        refine (HS.out _).mono ?_
        rintro e w' ⟨rfl, rfl⟩
        go_wp2_with fail
        refine (HP.out _).mono ?_
        rintro e w' ⟨rfl, rfl⟩
        go_wp2
        go_ret
        exact ⟨rfl, rfl⟩
    · have hd7 : decide (0 < y) = false := decide_eq_false cy
      cases he : (y == m)
      · have hdb : decide (x ≤ o + y) = true := by
          have : y ≠ m := by simpa using he
          rcases F2.out with c | c
          · exact absurd c this
          · exact decide_eq_true c
        clear hd8 hd9 f1
        go_enter Try.func6, Try.ntmps6
        go_wp2_with fail
        refine (HA.out _).mono ?_
        rintro e w' ⟨rfl, rfl⟩
        go_wp2_with fail
        refine (HS.out _).mono ?_
        rintro e w' ⟨rfl, rfl⟩
        go_wp2_with fail
        refine (HP.out _).mono ?_
        rintro e w' ⟨rfl, rfl⟩
        go_wp2
        go_ret
        exact ⟨rfl, rfl⟩
      · clear hd8 hd9 f1
        go_enter Try.func6, Try.ntmps6
        go_wp2_with fail
        refine (HA.out _).mono ?_
        rintro e w' ⟨rfl, rfl⟩
        go_wp2_with fail
        refine (HS.out _).mono ?_
        rintro e w' ⟨rfl, rfl⟩
        go_wp2_with fail
        refine (HP.out _).mono ?_
        rintro e w' ⟨rfl, rfl⟩
        go_wp2
        go_ret
        exact ⟨rfl, rfl⟩
  · have hor : decide (m < 0) = true ∨ (decide (m < 0) = false ∧ decide (1073741824 < m) = true) ∨ (decide (m < 0) = false ∧ decide (1073741824 < m) = false ∧ decide (o < 0) = true) ∨ (decide (m < 0) = false ∧ decide (1073741824 < m) = false ∧ decide (o < 0) = false ∧ decide (1073741824 < o) = true) := by
      simp only [decide_eq_true_eq, decide_eq_false_iff_not]
      omega
    clear hok
    rcases hor with h1 | ⟨h1, h2⟩ | ⟨h1, h2, h3⟩ | ⟨h1, h2, h3, h4⟩
    all_goals
      go_enter Try.func6, Try.ntmps6
      go_wp2_with fail
      refine (HA.out _).mono ?_
      rintro e w' ⟨rfl, rfl⟩
      go_wp2
      go_ret
      exact ⟨rfl, rfl⟩

set_option maxRecDepth 100000 in
set_option maxHeartbeats 1000000 in
theorem law_rises (x0 x1 : Int) (a b : Nat) (w : World) :
    Calls Try.prog 5 #[.agg #[.int .i64 x0, .int .i64 x1], .float .f64 a, .float .f64 b] w fun e w' => e = .returned (.bool true) ∧ Below w.heap.size w w' := by
  obtain ⟨w0, hw0⟩ : ∃ w0, w0 = w.alloc (.cells #[.int .i64 x0, .int .i64 x1] 33) := ⟨_, rfl⟩
  have HB0 : Hid (Below w.heap.size w w0) := Lib.hid (by rw [hw0]; exact (Below.refl _ _).alloc (Nat.le_refl _) _)
  have hbx : w0.heap[w.heap.size]? = some (.cells #[.int .i64 x0, .int .i64 x1] 33 (0, 0)) := by rw [hw0]; exact heap_alloc_new w _
  have c0 := cell_of_row w0 w.heap.size 0 _ _ _ hbx
  have c1 := cell_of_row w0 w.heap.size 1 _ _ _ hbx
  simp at c0 c1
  have HW0 := Lib.hid hw0
  clear hw0 hbx
  have HA := Lib.hid (fun V => awake_any V)
  have NA := Lib.hid (fun V => isnan_any a V)
  have NB := Lib.hid (fun V => isnan_any b V)
  cases ha : nanW a
  case true =>
    rw [ha] at NA
    go_enter Try.func5, Try.ntmps5
    go_wp2_with fail
    rw [← HW0.out]
    refine (HA.out _).mono ?_
    rintro e w' ⟨rfl, rfl⟩
    go_wp2_with fail
    refine (NA.out _).mono ?_
    rintro e w' ⟨rfl, rfl⟩
    go_wp2
    go_ret
    exact ⟨rfl, HB0.out⟩
  rw [ha] at NA
  cases hb : nanW b
  case true =>
    rw [hb] at NB
    go_enter Try.func5, Try.ntmps5
    go_wp2_with fail
    rw [← HW0.out]
    refine (HA.out _).mono ?_
    rintro e w' ⟨rfl, rfl⟩
    go_wp2_with fail
    refine (NA.out _).mono ?_
    rintro e w' ⟨rfl, rfl⟩
    go_wp2_with fail
    refine (NB.out _).mono ?_
    rintro e w' ⟨rfl, rfl⟩
    go_wp2
    go_ret
    exact ⟨rfl, HB0.out⟩
  rw [hb] at NB
  by_cases hk : key b < key a
  · have hgt : (FloatKind.f64.format.order a b == some .gt) = true := by
      rw [t_gt]; unfold gtF; rw [ha, hb, decide_eq_true hk]; rfl
    clear hk
    go_enter Try.func5, Try.ntmps5
    go_wp2_with fail
    rw [← HW0.out]
    refine (HA.out _).mono ?_
    rintro e w' ⟨rfl, rfl⟩
    go_wp2_with fail
    refine (NA.out _).mono ?_
    rintro e w' ⟨rfl, rfl⟩
    go_wp2_with fail
    refine (NB.out _).mono ?_
    rintro e w' ⟨rfl, rfl⟩
    go_wp2
    go_ret
    exact ⟨rfl, HB0.out⟩
  have hgt : (FloatKind.f64.format.order a b == some .gt) = false := by
    rw [t_gt]; unfold gtF; rw [ha, hb, decide_eq_false hk]; rfl
  by_cases hx : x1 < x0
  · have hd : decide (x1 < x0) = true := decide_eq_true hx
    clear hk hx
    go_enter Try.func5, Try.ntmps5
    go_wp2_with fail
    rw [← HW0.out]
    refine (HA.out _).mono ?_
    rintro e w' ⟨rfl, rfl⟩
    go_wp2_with fail
    refine (NA.out _).mono ?_
    rintro e w' ⟨rfl, rfl⟩
    go_wp2_with fail
    refine (NB.out _).mono ?_
    rintro e w' ⟨rfl, rfl⟩
    go_wp2
    go_ret
    exact ⟨rfl, HB0.out⟩
  have hd : decide (x1 < x0) = false := decide_eq_false hx
  have r1 := partV_rises (n := x0) ha hb (Int.not_lt.1 hk)
  have r2 := partV_more (n := x0) (m := x1) (a := a) (by omega)
  have r3 := partV_range x0 a
  have r4 := partV_range x0 b
  have PA := Lib.hid (fun V => part_any x0 a V)
  have PB := Lib.hid (fun V => part_any x0 b V)
  have PC := Lib.hid (fun V => part_any x1 a V)
  generalize partV x0 a = k at *
  generalize partV x0 b = m at *
  generalize partV x1 a = n at *
  have e1 : decide (k ≤ m) = true := decide_eq_true r1
  have e2 : decide (k ≤ n) = true := decide_eq_true r2
  have e3 : decide (0 ≤ k) = true := decide_eq_true r3.1
  have e4 : (decide (m ≤ x0) = true) ∨ (decide (m ≤ x0) = false ∧ (m == 0) = true) := by
    rcases r4.2 with z | z
    · by_cases c : m ≤ x0
      · exact .inl (decide_eq_true c)
      · exact .inr ⟨decide_eq_false c, by simp [z]⟩
    · exact .inl (decide_eq_true (by omega))
  clear r1 r2 r3 r4 hk hx ha hb
  rcases e4 with e4 | ⟨e4, e5⟩
  all_goals
    go_enter Try.func5, Try.ntmps5
    go_wp2_with fail
    rw [← HW0.out]
    refine (HA.out _).mono ?_
    rintro e w' ⟨rfl, rfl⟩
    go_wp2_with fail
    refine (NA.out _).mono ?_
    rintro e w' ⟨rfl, rfl⟩
    go_wp2_with fail
    refine (NB.out _).mono ?_
    rintro e w' ⟨rfl, rfl⟩
    go_wp2_with fail
    refine (PA.out _).mono ?_
    rintro e w' ⟨rfl, rfl⟩
    go_wp2_with fail
    refine (PB.out _).mono ?_
    rintro e w' ⟨rfl, rfl⟩
    go_wp2_with fail
    refine (PC.out _).mono ?_
    rintro e w' ⟨rfl, rfl⟩
    go_wp2
    go_ret
    exact ⟨rfl, HB0.out⟩

namespace Flo
theorem part_nan (n : Int) : partV n 9221120237041090561 = 0 := by
  have : nanW 9221120237041090561 = true := by unfold nanW rg; rw [D_inf]; exact decide_eq_true (by omega)
  unfold partV; rw [if_pos (Or.inr (Or.inl this))]
theorem part_low (n : Int) : partV n 18442240474082181120 = 0 := by
  have : key 18442240474082181120 ≤ 0 := by
    have e : sg 18442240474082181120 = true := by unfold sg; simp
    unfold key; rw [e]; simp only [if_true]; omega
  unfold partV; rw [if_pos (Or.inr (Or.inr this))]
theorem part_minus (n : Int) : partV n 9223372036854775808 = 0 := by
  have : key 9223372036854775808 ≤ 0 := by
    rw [show 9223372036854775808 = 2 ^ 63 from rfl, key_nzero]; exact Int.le_refl _
  unfold partV; rw [if_pos (Or.inr (Or.inr this))]
theorem part_top (n : Int) : partV n 9218868437227405312 = min (max n 0) (2 ^ 40) := by
  have e : rg 9218868437227405312 = D.infRung := by unfold rg; rw [D_inf]
  have s : sg 9218868437227405312 = false := by unfold sg; simp
  have hk : (U : Int) ≤ key 9218868437227405312 := by
    have := val_inf
    unfold key; rw [e, s]; simp only [Bool.false_eq_true, if_false]; omega
  have hn : nanW 9218868437227405312 = false := by unfold nanW; rw [e]; exact decide_eq_false (by omega)
  have := U_pos
  unfold partV
  split
  · rename_i h
    rcases h with h | h | h
    · omega
    · rw [hn] at h; cases h
    · omega
  · rename_i h
    have : ¬ n < 1 := fun x => h (.inl x)
    omega
end Flo

theorem copysign_call (W : World) : Calls Try.prog 21 #[.float .f64 0, .float .f64 13830554455654793216] W fun e w' => e = .returned (.float .f64 9223372036854775808) ∧ W = w' := by
  have h1 : bits .andNot .u64 ((0 : Nat) : Int) 9223372036854775808 = 0 := by decide
  have h2 : bits .and .u64 ((13830554455654793216 : Nat) : Int) 9223372036854775808 = 9223372036854775808 := by decide
  go_enter Try.func21, Try.ntmps21
  go_wp2
  go_ret
  exact ⟨rfl, rfl⟩

set_option maxRecDepth 100000 in
set_option maxHeartbeats 1000000 in
theorem law_times (n : Int) (a b : Nat) (w : World) :
    Calls Try.prog 7 #[.int .i64 n, .float .f64 a, .float .f64 b] w fun e w' => e = .returned (.bool true) ∧ w = w' := by
  have HA := Lib.hid (fun V => awake_any V)
  have HT := Lib.hid (fun V => times_any n a b V)
  have HN := Lib.hid (fun V => nan_call V)
  have HI := Lib.hid (fun V => inf_call (-1) V)
  have HJ := Lib.hid (fun V => inf_call 1 V)
  have HC := Lib.hid (fun V => copysign_call V)
  have P1 := Lib.hid (fun V => part_any n 9221120237041090561 V)
  have P2 := Lib.hid (fun V => part_any n 18442240474082181120 V)
  have P3 := Lib.hid (fun V => part_any n 9223372036854775808 V)
  have P4 := Lib.hid (fun V => part_any n 9218868437227405312 V)
  rw [part_nan] at P1
  rw [part_low] at P2
  rw [part_minus] at P3
  have q := part_top n
  obtain ⟨t1, h1⟩ : ∃ t1 : Int, (if n < 0 then 0 else n) = t1 := ⟨_, rfl⟩
  obtain ⟨t2, h2⟩ : ∃ t2 : Int, (if 1099511627776 < t1 then 1099511627776 else t1) = t2 := ⟨_, rfl⟩
  have q2 : partV n 9218868437227405312 = t2 := by
    rw [q, ← h2, ← h1]
    split <;> split <;> omega
  rw [q2] at P4
  have ra := partV_range n a
  have rb := partV_range n b
  generalize partV n a = x at *
  generalize partV n b = z at *
  obtain ⟨y, hy⟩ : ∃ y, max x z = y := ⟨_, rfl⟩
  rw [hy] at HT
  have e1 : decide (0 ≤ x) = true := decide_eq_true ra.1
  have e2 : decide (x ≤ y) = true := decide_eq_true (by omega)
  have e3 : decide (y ≤ n) = true ∨ (decide (y ≤ n) = false ∧ decide (n < 1) = true) := by
    by_cases c : y ≤ n
    · exact .inl (decide_eq_true c)
    · exact .inr ⟨decide_eq_false c, decide_eq_true (by omega)⟩
  have s2 : ((t2 : Int) == t2) = true := by simp
  clear ra rb hy q q2
  rcases e3 with e3 | ⟨e3, e4⟩
  all_goals
    go_enter Try.func7, Try.ntmps7
    go_wp2_with fail
    refine (HA.out _).mono ?_
    rintro e w' ⟨rfl, rfl⟩
    go_wp2_with fail
    refine (HT.out _).mono ?_
    rintro e w' ⟨rfl, rfl⟩
    go_wp2_with fail
    refine (HN.out _).mono ?_
    rintro e w' ⟨rfl, rfl⟩
    go_wp2_with fail
    refine (P1.out _).mono ?_
    rintro e w' ⟨rfl, rfl⟩
    go_wp2_with fail
    refine (HI.out _).mono ?_
    rintro e w' ⟨rfl, rfl⟩
    go_wp2_with fail
    refine (P2.out _).mono ?_
    rintro e w' ⟨rfl, rfl⟩
    go_wp2_with fail
    refine (HC.out _).mono ?_
    rintro e w' ⟨rfl, rfl⟩
    go_wp2_with fail
    refine (P3.out _).mono ?_
    rintro e w' ⟨rfl, rfl⟩
    go_wp2_with fail
    refine (HJ.out _).mono ?_
    rintro e w' ⟨rfl, rfl⟩
    go_wp2_with fail
    refine (P4.out _).mono ?_
    rintro e w' ⟨rfl, rfl⟩
    go_wp2
    go_ret
    exact ⟨rfl, rfl⟩
end Go.Proofs.Ytnbokhbhdmkelaa
