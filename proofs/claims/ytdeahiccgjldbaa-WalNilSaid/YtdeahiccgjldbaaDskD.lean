/- The disk of the code: Fail, New, Crash. -/
import Derived.Test.YtdeahiccgjldbaaDskC
import Derived.BigRegion
namespace Go.Proofs.Ytdeahiccgjldbaa
open Go.RowKit

theorem new_ds (w : World) (k base : Nat) (ty : TypeId) (hb : base = w.heap.size + 1) : DAt ty base (w.alloc (.cells #[.int .i64 (k : Int), .slice none 0 0, .int .i64 0, .int .i64 (-1)] ty)) w.heap.size ⟨k, [], 0, -1⟩ (.slice none 0 0) := by
  subst hb
  exact ⟨heap_alloc_new w _, World.ownsRow_nil _ _ _ _, Nat.lt_succ_self _, by show _ ≤ (w.heap.push _).size; rw [Array.size_push]; exact Nat.le_refl _⟩

set_option maxRecDepth 100000 in
theorem fail_any {base : Nat} {w : World} {D : Nat} {s : DS} {v : Value} (h : DAt DT base w D s v) (n : Int) :
    Calls Try.prog 32 #[ptr D, .int .i64 n] w fun e w' => e = .returned (.tuple #[]) ∧ Did DT base w D v w' (failD s n) := by
  have h3 := h.c3
  have hf := h.free 3
  have H := Lib.hid h
  clear h
  go_enter Try.func32, Try.ntmps32
  go_wp2
  · go_end0
    have e : failD s n = { s with left := -1 } := by rw [failD, if_pos (by omega)]
    rw [e]
    exact ⟨rfl, _, H.out.set3 (-1), Oth.set _ _ _ (Kp.refl _ _), fun _ hk => .inl hk⟩
  · go_end0
    have e : failD s n = { s with left := n } := by rw [failD, if_neg (by omega)]
    rw [e]
    exact ⟨rfl, _, H.out.set3 n, Oth.set _ _ _ (Kp.refl _ _), fun _ hk => .inl hk⟩

/-- What New answers. -/
def News (ty : TypeId) (w : World) (n : Int) (e : Ending) (w' : World) : Prop :=
  (∃ k : Nat, n = (k : Int) ∧ 1 ≤ k ∧ k ≤ 1048576 ∧ e = .returned (.tuple #[ptr w.heap.size, .int .i64 0]) ∧ DAt ty (w.heap.size + 1) w' w.heap.size ⟨k, [], 0, -1⟩ (.slice none 0 0) ∧ Below w.heap.size w w' ∧ w'.heap.size = w.heap.size + 1)
  ∨ (¬ (1 ≤ n ∧ n ≤ 1048576) ∧ e = .returned (.tuple #[.pointer none, .int .i64 1]) ∧ w' = w)

set_option maxRecDepth 100000 in
theorem new_any (w : World) (n : Int) : Calls Try.prog 10 #[.int .i64 n] w (News DT w n) := by
  by_cases hn : 1 ≤ n ∧ n ≤ 1048576
  · obtain ⟨k, rfl⟩ := Int.eq_ofNat_of_zero_le (show 0 ≤ n by omega)
    have d1 : decide ((k : Int) < 1) = false := decide_eq_false (by omega)
    have d2 : decide (1048576 < (k : Int)) = false := decide_eq_false (by omega)
    have HN := Lib.hid hn
    clear hn
    go_enter Try.func10, Try.ntmps10
    go_wp2
    go_ret2
    have hn := HN.out
    exact .inl ⟨k, rfl, by omega, by omega, rfl, new_ds w k _ _ rfl, (Below.refl _ _).alloc (Nat.le_refl _) _, Array.size_push _⟩
  · have h : (decide (n < 1) = true) ∨ (decide (n < 1) = false ∧ decide (1048576 < n) = true) := by
      simp only [decide_eq_true_eq, decide_eq_false_iff_not]; omega
    have HN := Lib.hid hn
    clear hn
    rcases h with d1 | ⟨d1, d2⟩
    all_goals
      go_enter Try.func10, Try.ntmps10
      go_wp2
      go_ret2
      exact .inr ⟨HN.out, rfl, rfl⟩

theorem own_head {w : World} {base : Nat} {e : TypeId} {A : Option Addr} {m n c k : Nat} {l : List UInt8} (h : w.ownsRow base e 1 (.slice A m c) n (bcells l)) (hm : m = n) (hk : k ≤ n) : w.ownsRow base e 1 (.slice A k c) k (bcells (l.take k)) := by
  subst hm
  have h1 := h.1
  rw [bcells_length] at h1
  refine ⟨by rw [bcells_length, List.length_take]; omega, ?_⟩
  rcases h.2 with ⟨hv, hn⟩ | ⟨g, cap, cur, hv, hb, hh, hnc, hcm, hcs, ht⟩
  · injection hv with hA _ hc
    subst hA hc
    exact .inl ⟨by rw [show k = 0 by omega], by omega⟩
  · injection hv with hA _ hc
    subst hA hc
    refine .inr ⟨g, c, cur, rfl, hb, hh, by omega, hcm, hcs, ?_⟩
    have e1 : bcells (l.take k) = (bcells l).take k := by simp [bcells, List.map_take]
    rw [e1, ← ht, List.take_take, Nat.mul_one, Nat.mul_one, Nat.min_eq_left hk]

set_option maxRecDepth 100000 in
set_option maxHeartbeats 1000000 in
theorem crash_any {base : Nat} {w : World} {D : Nat} {s : DS} {v : Value} (h : DAt DT base w D s v) (ho : s.Ok) (n : Int) :
    Calls Try.prog 23 #[ptr D, .int .i64 n] w fun e w' => e = .returned (.tuple #[]) ∧ Did DT base w D v w' (crashD s n) := by
  obtain ⟨A, c, rfl, hc, hby⟩ := h.form
  have h1 := h.c1
  have h2 := h.c2
  have hf2 := h.free 2
  have H := Lib.hid h
  clear h
  have b1 := ho.last
  have b2 := ho.len
  have b3 := ho.r1
  have HO := Lib.hid ho
  clear ho
  have HC := Lib.hid hc
  clear hc hby
  obtain ⟨l, hl⟩ : ∃ l, l = s.bs.length := ⟨_, rfl⟩
  rw [← hl] at h1 b1 b2
  rw [← hl] at H
  obtain ⟨m, hm⟩ : ∃ m, m = s.last := ⟨_, rfl⟩
  rw [← hm] at h2 b1
  have HL := Lib.hid hl
  have HM := Lib.hid hm
  clear hl hm
  have hl3 : l ≤ 1048576 := by omega
  have HR := Lib.hid b2
  have HR1 := Lib.hid b3
  clear b2 b3
  have w1 : IntKind.i64.wrap ((l : Int) - (m : Int)) = (l : Int) - (m : Int) := IntWalk.i64_in _ (by omega)
  have hk : ∃ k : Nat, k ≤ l ∧ Hid (k = s.last + kept s n) ∧ ((n < 0 ∧ ¬ ((l : Int) - (m : Int) < 0) ∧ k = m) ∨ (¬ n < 0 ∧ (l : Int) - (m : Int) < n ∧ IntKind.i64.wrap ((m : Int) + ((l : Int) - (m : Int))) = (k : Int)) ∨ (¬ n < 0 ∧ ¬ ((l : Int) - (m : Int) < n) ∧ IntKind.i64.wrap ((m : Int) + n) = (k : Int))) := by
    have hL := HL.out
    have hM := HM.out
    unfold kept
    rw [← hL, ← hM]
    by_cases hn : n < 0
    · exact ⟨m, b1, by rw [if_pos (by omega)]; rfl, .inl ⟨hn, by omega, rfl⟩⟩
    · by_cases h2 : (l : Int) - (m : Int) < n
      · refine ⟨l, Nat.le_refl _, ?_, .inr (.inl ⟨hn, h2, ?_⟩)⟩
        · rw [if_neg (by omega), if_neg (by omega)]
          show l = m + (l - m)
          omega
        · rw [IntWalk.i64_in _ (by omega)]; omega
      · obtain ⟨j, rfl⟩ := Int.eq_ofNat_of_zero_le (show 0 ≤ n by omega)
        refine ⟨m + j, by omega, ?_, .inr (.inr ⟨hn, h2, ?_⟩)⟩
        · split
          · show m + j = m + 0
            omega
          · show m + j = m + _
            rw [if_pos (by omega)]
            omega
        · rw [IntWalk.i64_in _ (by omega)]; omega
  obtain ⟨k, hkl, HK, hcase⟩ := hk
  have hd1 := (H.out.set2 k).drew
  have hk1 : Kp (Oth w D (.slice A l c)) w (w.setCell ⟨D, 2, none⟩ (.int .i64 (k : Int))).drew := (Oth.set _ _ _ (Kp.refl _ _)).drew
  have hcut := fun W => run_headB A l c (k : Int) (by omega) (by have := HC.out; have := HL.out; omega) W
  rw [Int.toNat_natCast] at hcut
  have HD1 := Lib.hid hd1
  have HK1 := Lib.hid hk1
  have HKL := Lib.hid hkl
  have B1 := Lib.hid b1
  clear hd1 hk1 hkl b1
  rcases hcase with ⟨t1, t2, rfl⟩ | ⟨t1, t2, t3⟩ | ⟨t1, t2, t3⟩
  all_goals
    go_enter Try.func23, Try.ntmps23
    go_wp2_with fail
    go_region
    generalize (w.setCell ⟨D, 2, none⟩ (.int .i64 (k : Int))).drew = W1 at HD1 HK1 ⊢
    have e1 := HD1.out.c1
    have e2 := HD1.out.c2
    have ef := HD1.out.free 1
    have hown : W1.ownsRow base 5 1 (.slice A k c) (s.bs.take k).length (bcells (s.bs.take k)) := by
      have h := own_head (k := k) HD1.out.own HL.out (by have := HL.out; have := HKL.out; show k ≤ s.bs.length; omega)
      have hlen : (s.bs.take k).length = k := by rw [List.length_take]; have := HL.out; have := HKL.out; omega
      rw [hlen]
      exact h
    have HD2 := Lib.hid ((HD1.out.set1 _ hown).drew)
    have HK2 : Hid (Kp (Oth w D (.slice A l c)) w (W1.setCell ⟨D, 1, none⟩ (.slice A k c)).drew) := Lib.hid (Oth.set _ _ _ HK1.out).drew
    clear hown
    go_wp2_with fail
    go_region
    generalize (W1.setCell ⟨D, 1, none⟩ (.slice A k c)).drew = W2 at HD2 HK2 ⊢
    have e3 := HD2.out.c3
    have ef3 := HD2.out.free 3
    go_wp2
    go_end0
    have hl := HL.out
    subst hl
    have hs : crashD s n = { { { s with last := k } with bs := s.bs.take k } with left := -1 } := by
      unfold crashD
      rw [← HK.out]
    rw [hs]
    exact ⟨rfl, .slice A k c, HD2.out.set3 (-1), Oth.set _ _ _ HK2.out, fun _ hk => .inl (by cases A <;> exact hk)⟩
end Go.Proofs.Ytdeahiccgjldbaa
