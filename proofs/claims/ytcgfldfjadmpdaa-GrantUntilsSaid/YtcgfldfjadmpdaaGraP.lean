/- grant: its values (the code's and the document's are one, but for a lease whose Until is no moment); after, latest, bounded. -/
import Derived.Test.YtcgfldfjadmpdaaCloM
import Derived.Test.YtcgfldfjadmpdaaBasM
import Derived.Outline
namespace Go.Proofs.Ytcgfldfjadmpdaa
open Go.RowKit

theorem moV_id {a : Int} (h : 0 ≤ a) (h' : a ≤ 1099511627776) : moV a = a := by unfold moV limV; omega
theorem addV_zero (m : Int) : addV m 0 = moV m := by
  unfold addV
  rw [show limV 0 (-1099511627776) 1099511627776 = 0 from rfl, Int.add_zero, moV_id (moV_range m).1 (moV_range m).2]
theorem addV_range (t d : Int) : 0 ≤ addV t d ∧ addV t d ≤ 1099511627776 := moV_range _
/-- A span later. -/
def aftV (t s : Int) : Int := addV t (max s 0)
theorem aftV_range (t d : Int) : 0 ≤ aftV t d ∧ aftV t d ≤ 1099511627776 := moV_range _
/-- The greatest one of moments. -/
def latV (ks : List Int) : Int := ks.foldl (fun l m => max l (moV m)) 0
theorem latV_one (a : Int) : latV [a] = moV a := by
  have := moV_range a
  unfold latV
  simp only [List.foldl_cons, List.foldl_nil]
  omega
theorem latV_two (a b : Int) : latV [a, b] = max (moV a) (moV b) := by
  have := moV_range a
  unfold latV
  simp only [List.foldl_cons, List.foldl_nil]
  omega
theorem latV_snoc (ks : List Int) (x : Int) : latV (ks ++ [x]) = max (latV ks) (moV x) := by simp [latV]
theorem latV_range (ks : List Int) : 0 ≤ latV ks ∧ latV ks ≤ 1099511627776 := by
  rw [← ks.reverse_reverse]
  generalize ks.reverse = r
  induction r with
  | nil => simp [latV]
  | cons x r ih =>
    rw [List.reverse_cons, latV_snoc]
    have := moV_range x
    omega
/-- Up to when anything may be promised. -/
def untV (lead now want acked : Int) : Int := min (aftV now want) (aftV (max (moV now) (moV acked)) lead)

theorem after_any (t s : Int) (W : World) : Calls Try.prog 18 #[.int .i64 t, .int .i64 s] W fun e w' => e = .returned (.int .i64 (aftV t s)) ∧ W = w' := by
  have HA := Lib.hid (fun V => add_any t (max s 0) V)
  unfold aftV
  by_cases h : s < 0
  · rw [show max s 0 = 0 by omega] at HA ⊢
    generalize addV t 0 = a at *
    go_enter Try.func18, Try.ntmps18
    go_wp2_with fail
    refine (HA.out _).mono ?_
    rintro e w' ⟨rfl, rfl⟩
    go_wp2
    go_ret
    exact ⟨rfl, rfl⟩
  · rw [show max s 0 = s by omega] at HA ⊢
    generalize addV t s = a at *
    go_enter Try.func18, Try.ntmps18
    go_wp2_with fail
    refine (HA.out _).mono ?_
    rintro e w' ⟨rfl, rfl⟩
    go_wp2
    go_ret
    exact ⟨rfl, rfl⟩

theorem rbounded_any (n : Int) (W : World) : Calls Try.prog 21 #[.int .i64 n] W fun e w' => e = .returned (.int .i64 (moV n)) ∧ W = w' := by
  have HA := Lib.hid (fun V => radd_any n 0 V)
  rw [addV_zero] at HA
  generalize moV n = a at *
  go_enter Try.func21, Try.ntmps21
  go_wp2_with fail
  refine (HA.out _).mono ?_
  rintro e w' ⟨rfl, rfl⟩
  go_wp2
  go_ret
  exact ⟨rfl, rfl⟩

set_option maxRecDepth 100000 in
set_option maxHeartbeats 400000 in
theorem latest_any (b : Nat) (ks : List Int) (hks : ks.length ≤ 10) (W : World) (hb : W.heap[b]? = some (.cells (ks.map fun x => Value.int .i64 x).toArray 3 (0, 0))) :
    Calls Try.prog 19 #[.slice (some ⟨b, 0, none⟩) ks.length ks.length] W fun e w' => e = .returned (.int .i64 (latV ks)) ∧ W = w' := by
  go_enter Try.func19, Try.ntmps19
  go_wp2
  go_loop [3, 8] (fun l i => ∃ (j : Nat), j ≤ ks.length ∧ i = .int .i64 j ∧ l = .int .i64 (latV (ks.take j))) (fun _ i => ks.length - (intOf i).toNat)
  case atStart => exact ⟨0, Nat.zero_le _, rfl, rfl⟩
  case round =>
    obtain ⟨j, hj, rfl, rfl⟩ := hrel
    by_cases hlt : j < ks.length
    · obtain ⟨x, hx⟩ : ∃ x, ks[j]? = some x := ⟨_, List.getElem?_eq_getElem hlt⟩
      have hc : W.cell? ⟨b, j, none⟩ = some (.int .i64 x) := by
        rw [cell_of_row W b j _ _ _ hb]
        simp [hx]
      have HA := Lib.hid (fun V => add_any x 0 V)
      rw [addV_zero] at HA
      have HS := Lib.hid (latV_snoc (ks.take j) x)
      rw [← take_snoc_of ks j x hx] at HS
      clear hx
      generalize latV (ks.take j) = l at *
      generalize moV x = m at *
      go_wp2_with fail
      refine (HA.out _).mono ?_
      rintro e w' ⟨rfl, rfl⟩
      go_wp2
      all_goals
        go_round
        case rel => exact ⟨j + 1, by omega, by go_num, by have := HS.out; congr 1; split <;> omega⟩
        case measure => simp [intOf]; omega
    · go_wp2
      go_ret
      rw [List.take_of_length_le (by omega)]
      exact ⟨rfl, rfl⟩
theorem latest_two {X : World} {b : Nat} (hb : X.heap.size = b) (x y : Int) :
    Calls Try.prog 19 #[.slice (some ⟨b, 0, none⟩) 2 2] (X.alloc (.cells #[.int .i64 x, .int .i64 y] 3)) fun e w' => e = .returned (.int .i64 (max (moV x) (moV y))) ∧ X.alloc (.cells #[.int .i64 x, .int .i64 y] 3) = w' := by
  rw [← latV_two]
  exact latest_any b [x, y] (by simp) _ (by subst hb; exact heap_alloc_new X _)
theorem latest_one {X : World} {b : Nat} (hb : X.heap.size = b) (x : Int) :
    Calls Try.prog 19 #[.slice (some ⟨b, 0, none⟩) 1 1] (X.alloc (.cells #[.int .i64 x] 3)) fun e w' => e = .returned (.int .i64 (moV x)) ∧ X.alloc (.cells #[.int .i64 x] 3) = w' := by
  rw [← latV_one]
  exact latest_any b [x] (by simp) _ (by subst hb; exact heap_alloc_new X _)
/-- The same in a world behind a draw. -/
theorem latest_two_d {X : World} {b : Nat} (hb : X.heap.size = b) (x y : Int) :
    Calls Try.prog 19 #[.slice (some ⟨b, 0, none⟩) 2 2] (X.alloc (.cells #[.int .i64 x, .int .i64 y] 3)).drew fun e w' => e = .returned (.int .i64 (max (moV x) (moV y))) ∧ (X.alloc (.cells #[.int .i64 x, .int .i64 y] 3)).drew = w' := by
  rw [← latV_two]
  exact latest_any b [x, y] (by simp) _ (by subst hb; exact heap_alloc_new X _)
end Go.Proofs.Ytcgfldfjadmpdaa
