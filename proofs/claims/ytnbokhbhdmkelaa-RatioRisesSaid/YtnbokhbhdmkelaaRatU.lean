/- How uneven two numbers are: the program's, and the document's; both add up to the same with nought. -/
import Derived.Test.YtnbokhbhdmkelaaRatT
namespace Go.Proofs.Ytnbokhbhdmkelaa
open Ieee Go.RowKit Flo
namespace Flo

abbrev ONE : Nat := 4607182418800017408
/-- The lesser one of a rung and one. -/
def unV (r : Nat) : Nat := if U ≤ val r then ONE else r

theorem rg_small {r : Nat} (h : r < 2 ^ 63) : rg r = r ∧ sg r = false := by
  unfold rg sg
  refine ⟨Nat.mod_eq_of_lt h, ?_⟩
  have : r / 2 ^ 63 % 2 = 0 := by omega
  rw [this]; rfl
theorem key_small {r : Nat} (h : r < 2 ^ 63) : key r = val r := by
  obtain ⟨a, b⟩ := rg_small h
  unfold key; rw [a, b]; rfl
theorem word_small {b : Nat} (h : b < 2 ^ 64) (hs : sg b = false) : rg b = b := by
  unfold sg at hs
  unfold rg
  have : ¬ (b / 2 ^ 63 % 2 = 1) := by simpa using hs
  omega
theorem rg_lt (b : Nat) : rg b < 2 ^ 63 := Nat.mod_lt _ (Nat.two_pow_pos 63)
theorem nan_rg (b : Nat) : nanW (rg b) = nanW b := by unfold nanW; rw [(rg_small (rg_lt b)).1]
theorem val_inj {r s : Nat} (h : val r = val s) : r = s := by
  have a := (val_le_iff (r := r) (s := s)).1 (by omega)
  have b := (val_le_iff (r := s) (s := r)).1 (by omega)
  omega
theorem val_ONE : val ONE = U := by rw [show ONE = 1023 * 2 ^ 52 from one_def]; exact val_one

theorem unV_le {r : Nat} (h : val r ≤ U) : unV r = r := by
  unfold unV
  split
  · exact (val_inj (by rw [val_ONE]; omega)).symm
  · rfl
theorem unV_gt {r : Nat} (h : U < val r) : unV r = ONE := by unfold unV; exact if_pos (by omega)

theorem min_run {P : Program} (ats : Array TypeId) (t : TypeId) (r : Nat) (h : r < 2 ^ 63) (hn : nanW r = false) (W : World) :
    (Builtin.min_ ats t #[.float .f64 r, .float .f64 ONE]).run P W = .ok (.float .f64 (unV r)) W := by
  have e : (Builtin.min_ ats t #[.float .f64 r, .float .f64 ONE]).run P W = (Builtin.min2 (.float .f64 r) (.float .f64 ONE)).run P W := by
    simp [Builtin.min_]
  rw [e]
  have o := order_keys r ONE hn nan_one
  rw [key_small h, key_one'] at o
  have hr : (FloatKind.f64.decode r).neg = false := by
    unfold FloatKind.decode
    rw [fmt, read_word, (rg_small h).1, (rg_small h).2]
    split
    · rfl
    · split <;> rfl
  rcases Int.lt_trichotomy (val r : Int) (U : Int) with c | c | c
  · have u : unV r = r := by unfold unV; exact if_neg (by omega)
    rw [Int.compare_eq_lt.2 c] at o
    rw [u]; unfold Builtin.min2; simp only [fmt, o]; rfl
  · have u : unV r = ONE := by unfold unV; exact if_pos (by omega)
    rw [Int.compare_eq_eq.2 c] at o
    rw [u]; unfold Builtin.min2; simp only [fmt, o, hr]; rfl
  · have u : unV r = ONE := by unfold unV; exact if_pos (by omega)
    rw [Int.compare_eq_gt.2 c] at o
    rw [u]; unfold Builtin.min2; simp only [fmt, o]; rfl

theorem add_minus : D.add (2 ^ 63) 0 = D.add 0 0 := by decide +kernel
theorem neg_lt {s : Nat} (h : s < 2 ^ 64) : Op.negFloat .f64 s < 2 ^ 64 := by
  unfold Op.negFloat
  rw [fmt]
  exact Nat.xor_lt_two_pow h (by decide)

theorem unary_neg_float (b : Nat) : Op.unary .neg (.float .f64 b) = pure (.float .f64 (Op.negFloat .f64 b)) := rfl
end Flo
attribute [local go_sem] unary_neg_float

/-- The law's last word: both add up to the same with nought. -/
def SameU (X Y : Nat) : Prop := ∃ r, (∀ W, (binOp .add 22 (.float .f64 X) (.float .f64 0)).run Try.prog W = .ok (.float .f64 r) W) ∧ ∀ W, (binOp .add 22 (.float .f64 Y) (.float .f64 0)).run Try.prog W = .ok (.float .f64 r) W
theorem SameU.of {X Y : Nat} (hx : nanW X = false) (h : D.add Y 0 = D.add X 0) : SameU X Y := by
  obtain ⟨r, hr, _⟩ := add_zero_fit hx
  exact ⟨r, fun W => run_float_arith W _ _ _ _ _ _ hr, fun W => run_float_arith W _ _ _ _ _ _ (h.trans hr)⟩

theorem uneven_both (m o : Int) (w : Nat) : ∃ X Y : Nat, SameU X Y ∧
    (∀ W, Calls Try.prog 13 #[.int .i64 m, .int .i64 o, .float .f64 w] W fun e w' => e = .returned (.float .f64 X) ∧ W = w') ∧
    (∀ W, Calls Try.prog 14 #[.int .i64 m, .int .i64 o, .float .f64 w] W fun e w' => e = .returned (.float .f64 Y) ∧ W = w') := by
  have HM := Lib.hid (fun V => shared_any m V)
  have HO := Lib.hid (fun V => shared_any o V)
  have RM := Lib.hid (fun V => bounded_any m V)
  have RO := Lib.hid (fun V => bounded_any o V)
  obtain ⟨a0, a1⟩ := bnd_range m
  obtain ⟨b0, b1⟩ := bnd_range o
  generalize bnd m = a at *
  generalize bnd o = b at *
  by_cases hz : a + b = 0
  · refine ⟨0, 0, SameU.of nan_zero rfl, fun W => ?_, fun W => ?_⟩
    · go_enter Try.func13, Try.ntmps13
      go_wp2_with fail
      refine (HM.out _).mono ?_
      rintro e w' ⟨rfl, rfl⟩
      go_wp2_with fail
      refine (HO.out _).mono ?_
      rintro e w' ⟨rfl, rfl⟩
      go_wp2
      go_ret
      exact ⟨rfl, rfl⟩
    · go_enter Try.func14, Try.ntmps14
      go_wp2_with fail
      refine (RM.out _).mono ?_
      rintro e w' ⟨rfl, rfl⟩
      go_wp2_with fail
      refine (RO.out _).mono ?_
      rintro e w' ⟨rfl, rfl⟩
      go_wp2
      go_ret
      exact ⟨rfl, rfl⟩
  cases hn : nanW w
  case neg.true =>
    have HN := Lib.hid (fun V => isnan_any w V)
    rw [hn] at HN
    refine ⟨ONE, ONE, SameU.of nan_one rfl, fun W => ?_, fun W => ?_⟩
    · go_enter Try.func13, Try.ntmps13
      go_wp2_with fail
      refine (HM.out _).mono ?_
      rintro e w' ⟨rfl, rfl⟩
      go_wp2_with fail
      refine (HO.out _).mono ?_
      rintro e w' ⟨rfl, rfl⟩
      go_wp2_with fail
      refine (HN.out _).mono ?_
      rintro e w' ⟨rfl, rfl⟩
      go_wp2
      go_ret
      exact ⟨rfl, rfl⟩
    · go_enter Try.func14, Try.ntmps14
      go_wp2_with fail
      refine (RM.out _).mono ?_
      rintro e w' ⟨rfl, rfl⟩
      go_wp2_with fail
      refine (RO.out _).mono ?_
      rintro e w' ⟨rfl, rfl⟩
      go_wp2_with fail
      refine (HN.out _).mono ?_
      rintro e w' ⟨rfl, rfl⟩
      go_wp2
      go_ret
      exact ⟨rfl, rfl⟩
  have HN := Lib.hid (fun V => isnan_any w V)
  rw [hn] at HN
  obtain ⟨k, rfl⟩ := Int.eq_ofNat_of_zero_le b0
  obtain ⟨l, hl⟩ : ∃ l : Nat, a + (k : Int) = l := Int.eq_ofNat_of_zero_le (by omega)
  obtain ⟨q, hq, hqs, hqv⟩ := div_part (k := k) (l := l) (by omega) (by omega) (by omega)
  obtain ⟨s, hs, hsn⟩ := sub_fin (x := q) (y := w) (small_fin hqv) hn
  have hs64 : s < 2 ^ 64 := Format.sub_lt D hs
  have hdiv : ∀ W, (binOp .quo 22 (.float .f64 (floatOfInt .f64 (k : Int))) (.float .f64 (floatOfInt .f64 (l : Int)))).run Try.prog W = .ok (.float .f64 q) W := by
    intro W
    exact run_float_arith W _ _ _ _ _ _ (by rw [floatOf, floatOf]; exact hq)
  have hsub : ∀ W, (binOp .sub 22 (.float .f64 q) (.float .f64 w)).run Try.prog W = .ok (.float .f64 s) W :=
    fun W => run_float_arith W _ _ _ _ _ _ hs
  have HR := rg_lt s
  have HL := rg_lt s
  have hnr : nanW (rg s) = false := by rw [nan_rg]; exact hsn
  have hmin : ∀ ats t W, (Builtin.min_ ats t #[.float .f64 (rg s), .float .f64 4607182418800017408]).run Try.prog W = .ok (.float .f64 (unV (rg s))) W :=
    fun ats t W => min_run ats t (rg s) HL hnr W
  have HABS := Lib.hid (fun V => abs_call s hs64 V)
  have hXn : nanW (unV (rg s)) = false := by unfold unV; split; exact nan_one; exact hnr
  have hX : ∀ W, Calls Try.prog 13 #[.int .i64 m, .int .i64 o, .float .f64 w] W fun e w' => e = .returned (.float .f64 (unV (rg s))) ∧ W = w' := by
    intro W
    clear hXn hnr HL HR hs64 hs hsn hq hqs hqv hn
    generalize unV (rg s) = X at *
    generalize rg s = z at *
    go_enter Try.func13, Try.ntmps13
    go_wp2_with fail
    refine (HM.out _).mono ?_
    rintro e w' ⟨rfl, rfl⟩
    go_wp2_with fail
    refine (HO.out _).mono ?_
    rintro e w' ⟨rfl, rfl⟩
    go_wp2_with fail
    refine (HN.out _).mono ?_
    rintro e w' ⟨rfl, rfl⟩
    go_wp2_with fail
    refine (HABS.out _).mono ?_
    rintro e w' ⟨rfl, rfl⟩
    go_wp2
    go_ret
    exact ⟨rfl, rfl⟩
  have hnan0 : nanW s = false := hsn
  rcases Int.lt_trichotomy (key s) 0 with c | c | c
  · have hss : sg s = true := by
      cases e : sg s
      · unfold key at c; rw [e] at c; simp only [Bool.false_eq_true, if_false] at c; omega
      · rfl
    have hlt : (FloatKind.f64.format.order s 0 == some .lt) = true := by
      rw [t_lt]; unfold ltF; rw [hnan0, nan_zero, key_zero, decide_eq_true c]; rfl
    have hnn : nanW (Op.negFloat .f64 s) = false := by rw [nan_neg]; exact hnan0
    have hng : Op.negFloat .f64 s = rg s := by
      rw [← word_small (neg_lt hs64) (by rw [sg_neg, hss]; rfl), rg_neg]
    have hnk : key (Op.negFloat .f64 s) = val (rg s) := by rw [hng]; exact key_small HL
    by_cases d : U < val (rg s)
    · have hgt : (FloatKind.f64.format.order (Op.negFloat .f64 s) 4607182418800017408 == some .gt) = true := by
        rw [t_gt]; unfold gtF; rw [hnn, nan_one, key_one', hnk, decide_eq_true (by omega)]; rfl
      refine ⟨_, ONE, SameU.of hXn (by rw [unV_gt d]), hX, fun W => ?_⟩
      clear hX hXn hmin HABS hnr HL HR hs64 hs hsn hq hqs hqv hn hnk hng hnn hss c d hnan0
      go_enter Try.func14, Try.ntmps14
      go_wp2_with fail
      refine (RM.out _).mono ?_
      rintro e w' ⟨rfl, rfl⟩
      go_wp2_with fail
      refine (RO.out _).mono ?_
      rintro e w' ⟨rfl, rfl⟩
      go_wp2_with fail
      refine (HN.out _).mono ?_
      rintro e w' ⟨rfl, rfl⟩
      go_wp2
      go_ret
      exact ⟨rfl, rfl⟩
    · have hgt : (FloatKind.f64.format.order (Op.negFloat .f64 s) 4607182418800017408 == some .gt) = false := by
        rw [t_gt]; unfold gtF; rw [hnn, nan_one, key_one', hnk, decide_eq_false (by omega)]; rfl
      refine ⟨_, Op.negFloat .f64 s, SameU.of hXn (by rw [unV_le (by omega), hng]), hX, fun W => ?_⟩
      clear hX hXn hmin HABS hnr HL HR hs64 hs hsn hq hqs hqv hn hnk hng hnn hss c d hnan0
      go_enter Try.func14, Try.ntmps14
      go_wp2_with fail
      refine (RM.out _).mono ?_
      rintro e w' ⟨rfl, rfl⟩
      go_wp2_with fail
      refine (RO.out _).mono ?_
      rintro e w' ⟨rfl, rfl⟩
      go_wp2_with fail
      refine (HN.out _).mono ?_
      rintro e w' ⟨rfl, rfl⟩
      go_wp2
      go_ret
      exact ⟨rfl, rfl⟩
  · have hlt : (FloatKind.f64.format.order s 0 == some .lt) = false := by
      rw [t_lt]; unfold ltF; rw [hnan0, nan_zero, key_zero, decide_eq_false (by omega)]; rfl
    have hgt : (FloatKind.f64.format.order s 4607182418800017408 == some .gt) = false := by
      have := U_pos
      rw [t_gt]; unfold gtF; rw [hnan0, nan_one, key_one', decide_eq_false (by omega)]; rfl
    have hv0 : val (rg s) = 0 := by
      unfold key at c
      split at c <;> omega
    have hr0 : rg s = 0 := val_inj (by rw [hv0, val_zero])
    refine ⟨_, s, SameU.of hXn ?_, hX, fun W => ?_⟩
    · rw [unV_le (by rw [hv0]; exact Nat.zero_le _), hr0]
      cases e : sg s
      · rw [← word_small hs64 e, hr0]
      · have : s = 2 ^ 63 := by
          unfold rg at hr0
          unfold sg at e
          have : s / 2 ^ 63 % 2 = 1 := by simpa using e
          omega
        rw [this]; exact add_minus
    · clear hX hXn hmin HABS hnr HL HR hs64 hs hsn hq hqs hqv hn c hnan0 hv0 hr0
      go_enter Try.func14, Try.ntmps14
      go_wp2_with fail
      refine (RM.out _).mono ?_
      rintro e w' ⟨rfl, rfl⟩
      go_wp2_with fail
      refine (RO.out _).mono ?_
      rintro e w' ⟨rfl, rfl⟩
      go_wp2_with fail
      refine (HN.out _).mono ?_
      rintro e w' ⟨rfl, rfl⟩
      go_wp2
      go_ret
      exact ⟨rfl, rfl⟩
  · have hlt : (FloatKind.f64.format.order s 0 == some .lt) = false := by
      rw [t_lt]; unfold ltF; rw [hnan0, nan_zero, key_zero, decide_eq_false (by omega)]; rfl
    obtain ⟨hss, hsk⟩ := key_pos c
    have hng : rg s = s := word_small hs64 hss
    by_cases d : U < val (rg s)
    · have hgt : (FloatKind.f64.format.order s 4607182418800017408 == some .gt) = true := by
        rw [t_gt]; unfold gtF; rw [hnan0, nan_one, key_one', hsk, decide_eq_true (by omega)]; rfl
      refine ⟨_, ONE, SameU.of hXn (by rw [unV_gt d]), hX, fun W => ?_⟩
      clear hX hXn hmin HABS hnr HL HR hs64 hs hsn hq hqs hqv hn hng hsk hss c d hnan0
      go_enter Try.func14, Try.ntmps14
      go_wp2_with fail
      refine (RM.out _).mono ?_
      rintro e w' ⟨rfl, rfl⟩
      go_wp2_with fail
      refine (RO.out _).mono ?_
      rintro e w' ⟨rfl, rfl⟩
      go_wp2_with fail
      refine (HN.out _).mono ?_
      rintro e w' ⟨rfl, rfl⟩
      go_wp2
      go_ret
      exact ⟨rfl, rfl⟩
    · have hgt : (FloatKind.f64.format.order s 4607182418800017408 == some .gt) = false := by
        rw [t_gt]; unfold gtF; rw [hnan0, nan_one, key_one', hsk, decide_eq_false (by omega)]; rfl
      refine ⟨_, s, SameU.of hXn (by rw [unV_le (by omega), hng]), hX, fun W => ?_⟩
      clear hX hXn hmin HABS hnr HL HR hs64 hs hsn hq hqs hqv hn hng hsk hss c d hnan0
      go_enter Try.func14, Try.ntmps14
      go_wp2_with fail
      refine (RM.out _).mono ?_
      rintro e w' ⟨rfl, rfl⟩
      go_wp2_with fail
      refine (RO.out _).mono ?_
      rintro e w' ⟨rfl, rfl⟩
      go_wp2_with fail
      refine (HN.out _).mono ?_
      rintro e w' ⟨rfl, rfl⟩
      go_wp2
      go_ret
      exact ⟨rfl, rfl⟩
end Go.Proofs.Ytnbokhbhdmkelaa
