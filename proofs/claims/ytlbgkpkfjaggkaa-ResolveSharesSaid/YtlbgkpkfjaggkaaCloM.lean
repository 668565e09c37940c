/- clock: limit, moment, Add, Left, Past, At; the document's own; awake. -/
import Derived.Test.YtlbgkpkfjaggkaaRowNum
import Derived.Lib.Hide
namespace Go.Proofs.Ytlbgkpkfjaggkaa
open Go.RowKit

def limV (n lo hi : Int) : Int := min (max n lo) hi
def moV (n : Int) : Int := limV n 0 1099511627776
def addV (t d : Int) : Int := moV (moV t + limV d (-1099511627776) 1099511627776)
def leftV (n u : Int) : Int := max (moV u - moV n) 0
def pastV (n u g : Int) : Bool := decide (moV u + limV g 0 1099511627776 < moV n)
theorem moV_range (n : Int) : 0 ≤ moV n ∧ moV n ≤ 1099511627776 := by unfold moV limV; omega
theorem limV_range (n lo hi : Int) (h : lo ≤ hi) : lo ≤ limV n lo hi ∧ limV n lo hi ≤ hi := by unfold limV; omega

theorem limit_any (n lo hi : Int) (W : World) : Calls Try.prog 27 #[.int .i64 n, .int .i64 lo, .int .i64 hi] W fun e w' => e = .returned (.int .i64 (limV n lo hi)) ∧ W = w' := by
  go_enter Try.func27, Try.ntmps27
  go_wp2
  all_goals
    go_ret
    refine ⟨?_, rfl⟩
    show Ending.returned (.int .i64 _) = _
    congr 2
    unfold limV
    omega

theorem bounded_any (n lo hi : Int) (h : lo ≤ hi) (W : World) : Calls Try.prog 23 #[.int .i64 n, .int .i64 lo, .int .i64 hi] W fun e w' => e = .returned (.int .i64 (limV n lo hi)) ∧ W = w' := by
  have H := Lib.hid h
  clear h
  go_enter Try.func23, Try.ntmps23
  go_wp2
  all_goals
    go_ret
    refine ⟨?_, rfl⟩
    show Ending.returned (.int .i64 _) = _
    congr 2
    have := H.out
    unfold limV
    omega

theorem moment_any (n : Int) (W : World) : Calls Try.prog 26 #[.int .i64 n] W fun e w' => e = .returned (.int .i64 (moV n)) ∧ W = w' := by
  have HL := Lib.hid (fun V => limit_any n 0 1099511627776 V)
  unfold moV
  go_enter Try.func26, Try.ntmps26
  go_wp2_with fail
  refine (HL.out _).mono ?_
  rintro e w' ⟨rfl, rfl⟩
  go_wp2
  go_ret
  exact ⟨rfl, rfl⟩

theorem add_any (t d : Int) (W : World) : Calls Try.prog 33 #[.int .i64 t, .int .i64 d] W fun e w' => e = .returned (.int .i64 (addV t d)) ∧ W = w' := by
  have HA := Lib.hid (fun V => moment_any t V)
  have HB := Lib.hid (fun V => limit_any d (-1099511627776) 1099511627776 V)
  have HC := Lib.hid (fun V => moment_any (moV t + limV d (-1099511627776) 1099511627776) V)
  obtain ⟨a0, a1⟩ := moV_range t
  obtain ⟨b0, b1⟩ := limV_range d (-1099511627776) 1099511627776 (by omega)
  unfold addV
  generalize moV t = a at *
  generalize limV d (-1099511627776) 1099511627776 = b at *
  generalize moV (a + b) = c at *
  go_enter Try.func33, Try.ntmps33
  go_wp2_with fail
  refine (HA.out _).mono ?_
  rintro e w' ⟨rfl, rfl⟩
  go_wp2_with fail
  refine (HB.out _).mono ?_
  rintro e w' ⟨rfl, rfl⟩
  go_wp2_with fail
  refine (HC.out _).mono ?_
  rintro e w' ⟨rfl, rfl⟩
  go_wp2
  go_ret
  exact ⟨rfl, rfl⟩

theorem radd_any (t d : Int) (W : World) : Calls Try.prog 31 #[.int .i64 t, .int .i64 d] W fun e w' => e = .returned (.int .i64 (addV t d)) ∧ W = w' := by
  have HA := Lib.hid (fun V => bounded_any t 0 1099511627776 (by omega) V)
  have HB := Lib.hid (fun V => bounded_any d (-1099511627776) 1099511627776 (by omega) V)
  have HC := Lib.hid (fun V => bounded_any (moV t + limV d (-1099511627776) 1099511627776) 0 1099511627776 (by omega) V)
  obtain ⟨a0, a1⟩ := moV_range t
  obtain ⟨b0, b1⟩ := limV_range d (-1099511627776) 1099511627776 (by omega)
  unfold addV
  unfold moV at *
  generalize limV t 0 1099511627776 = a at *
  generalize limV d (-1099511627776) 1099511627776 = b at *
  generalize limV (a + b) 0 1099511627776 = c at *
  go_enter Try.func31, Try.ntmps31
  go_wp2_with fail
  refine (HA.out _).mono ?_
  rintro e w' ⟨rfl, rfl⟩
  go_wp2_with fail
  refine (HB.out _).mono ?_
  rintro e w' ⟨rfl, rfl⟩
  go_wp2_with fail
  refine (HC.out _).mono ?_
  rintro e w' ⟨rfl, rfl⟩
  go_wp2
  go_ret
  exact ⟨rfl, rfl⟩

theorem past_any (n u g : Int) (W : World) : Calls Try.prog 14 #[.int .i64 n, .int .i64 u, .int .i64 g] W fun e w' => e = .returned (.bool (pastV n u g)) ∧ W = w' := by
  have HA := Lib.hid (fun V => moment_any n V)
  have HB := Lib.hid (fun V => moment_any u V)
  have HC := Lib.hid (fun V => limit_any g 0 1099511627776 V)
  obtain ⟨a0, a1⟩ := moV_range n
  obtain ⟨b0, b1⟩ := moV_range u
  obtain ⟨c0, c1⟩ := limV_range g 0 1099511627776 (by omega)
  unfold pastV
  generalize moV n = a at *
  generalize moV u = b at *
  generalize limV g 0 1099511627776 = c at *
  go_enter Try.func14, Try.ntmps14
  go_wp2_with fail
  refine (HA.out _).mono ?_
  rintro e w' ⟨rfl, rfl⟩
  go_wp2_with fail
  refine (HB.out _).mono ?_
  rintro e w' ⟨rfl, rfl⟩
  go_wp2_with fail
  refine (HC.out _).mono ?_
  rintro e w' ⟨rfl, rfl⟩
  go_wp2
  go_ret
  exact ⟨rfl, rfl⟩

theorem rpast_any (n u g : Int) (W : World) : Calls Try.prog 11 #[.int .i64 n, .int .i64 u, .int .i64 g] W fun e w' => e = .returned (.bool (pastV n u g)) ∧ W = w' := by
  have HA := Lib.hid (fun V => bounded_any n 0 1099511627776 (by omega) V)
  have HB := Lib.hid (fun V => bounded_any u 0 1099511627776 (by omega) V)
  have HC := Lib.hid (fun V => bounded_any g 0 1099511627776 (by omega) V)
  obtain ⟨a0, a1⟩ := moV_range n
  obtain ⟨b0, b1⟩ := moV_range u
  obtain ⟨c0, c1⟩ := limV_range g 0 1099511627776 (by omega)
  unfold pastV
  unfold moV at *
  generalize limV n 0 1099511627776 = a at *
  generalize limV u 0 1099511627776 = b at *
  generalize limV g 0 1099511627776 = c at *
  go_enter Try.func11, Try.ntmps11
  go_wp2_with fail
  refine (HA.out _).mono ?_
  rintro e w' ⟨rfl, rfl⟩
  go_wp2_with fail
  refine (HB.out _).mono ?_
  rintro e w' ⟨rfl, rfl⟩
  go_wp2_with fail
  refine (HC.out _).mono ?_
  rintro e w' ⟨rfl, rfl⟩
  go_wp2
  go_ret
  exact ⟨rfl, rfl⟩

end Go.Proofs.Ytlbgkpkfjaggkaa
