/- How uneven two numbers are, as a function of theirs and the word (unW); the program's and the document's, which stand at one place on the line. (For seats of package pool; stage 5's is RatU.) -/
import Derived.Test.YtiapmnedbjmmhaaRatT
namespace Go.Proofs.Ytiapmnedbjmmhaa
open Ieee Go.RowKit Flo
namespace Flo

abbrev ONE : Nat := 4607182418800017408
/-- The lesser one of a rung and one. -/
def unV (r : Nat) : Nat := if U ≤ val r then ONE else r

theorem rg_small {r : Nat} (h : r < 2 ^ 63) : rg r = r ∧ sg r = false := by
  unfold rg sg
  refine ⟨Nat.mod_eq_of_lt h, ?_⟩
  have : r / 2 ^ 63 % 2 = 0 := by omega
  rw [this]; rfl
theorem key_small {r : Nat} (h : r < 2 ^ 63) : key r = val r := by
  obtain ⟨a, b⟩ := rg_small h
  unfold key; rw [a, b]; rfl
theorem word_small {b : Nat} (h : b < 2 ^ 64) (hs : sg b = false) : rg b = b := by
  unfold sg at hs
  unfold rg
  have : ¬ (b / 2 ^ 63 % 2 = 1) := by simpa using hs
  omega
theorem rg_lt (b : Nat) : rg b < 2 ^ 63 := Nat.mod_lt _ (Nat.two_pow_pos 63)
theorem nan_rg (b : Nat) : nanW (rg b) = nanW b := by unfold nanW; rw [(rg_small (rg_lt b)).1]
theorem val_inj {r s : Nat} (h : val r = val s) : r = s := by
  have a := (val_le_iff (r := r) (s := s)).1 (by omega)
  have b := (val_le_iff (r := s) (s := r)).1 (by omega)
  omega
theorem val_ONE : val ONE = U := by rw [show ONE = 1023 * 2 ^ 52 from one_def]; exact val_one

theorem unV_le {r : Nat} (h : val r ≤ U) : unV r = r := by
  unfold unV
  split
  · exact (val_inj (by rw [val_ONE]; omega)).symm
  · rfl
theorem unV_gt {r : Nat} (h : U < val r) : unV r = ONE := by unfold unV; exact if_pos (by omega)

theorem min_run {P : Program} (ats : Array TypeId) (t : TypeId) (r : Nat) (h : r < 2 ^ 63) (hn : nanW r = false) (W : World) :
    (Builtin.min_ ats t #[.float .f64 r, .float .f64 ONE]).run P W = .ok (.float .f64 (unV r)) W := by
  have e : (Builtin.min_ ats t #[.float .f64 r, .float .f64 ONE]).run P W = (Builtin.min2 (.float .f64 r) (.float .f64 ONE)).run P W := by
    simp [Builtin.min_]
  rw [e]
  have o := order_keys r ONE hn nan_one
  rw [key_small h, key_one'] at o
  have hr : (FloatKind.f64.decode r).neg = false := by
    unfold FloatKind.decode
    rw [fmt, read_word, (rg_small h).1, (rg_small h).2]
    split
    · rfl
    · split <;> rfl
  rcases Int.lt_trichotomy (val r : Int) (U : Int) with c | c | c
  · have u : unV r = r := by unfold unV; exact if_neg (by omega)
    rw [Int.compare_eq_lt.2 c] at o
    rw [u]; unfold Builtin.min2; simp only [fmt, o]; rfl
  · have u : unV r = ONE := by unfold unV; exact if_pos (by omega)
    rw [Int.compare_eq_eq.2 c] at o
    rw [u]; unfold Builtin.min2; simp only [fmt, o, hr]; rfl
  · have u : unV r = ONE := by unfold unV; exact if_pos (by omega)
    rw [Int.compare_eq_gt.2 c] at o
    rw [u]; unfold Builtin.min2; simp only [fmt, o]; rfl

theorem add_minus : D.add (2 ^ 63) 0 = D.add 0 0 := by decide +kernel
theorem neg_lt {s : Nat} (h : s < 2 ^ 64) : Op.negFloat .f64 s < 2 ^ 64 := by
  unfold Op.negFloat
  rw [fmt]
  exact Nat.xor_lt_two_pow h (by decide)

theorem unary_neg_float (b : Nat) : Op.unary .neg (.float .f64 b) = pure (.float .f64 (Op.negFloat .f64 b)) := rfl
end Flo
attribute [local go_sem] unary_neg_float

/-- How uneven two numbers within the bounds are. -/
def Flo.unB (a b : Int) (w : Nat) : Nat := if a + b = 0 then 0 else if nanW w = true then ONE else unV (rg ((D.sub ((D.div (whole b.toNat) (whole (a + b).toNat)).getD 0) w).getD 0))
def unW (m o : Int) (w : Nat) : Nat := unB (bnd m) (bnd o) w
/-- Both stand at one place on the line. -/
def SameK (X Y : Nat) : Prop := nanW X = false ∧ nanW Y = false ∧ key X = key Y
theorem SameK.gt {X Y : Nat} (h : SameK X Y) (s : Nat) : gtF Y s = gtF X s := by
  unfold gtF
  rw [h.1, h.2.1, h.2.2]

theorem uneven_any (m o : Int) (w : Nat) (W : World) : Calls Try.prog 26 #[.int .i64 m, .int .i64 o, .float .f64 w] W fun e w' => e = .returned (.float .f64 (unW m o w)) ∧ W = w' := by
  have HM := Lib.hid (fun V => shared_any m V)
  have HO := Lib.hid (fun V => shared_any o V)
  obtain ⟨a0, a1⟩ := bnd_range m
  obtain ⟨b0, b1⟩ := bnd_range o
  unfold unW
  generalize bnd m = a at *
  generalize bnd o = b at *
  by_cases hz : a + b = 0
  · rw [show unB a b w = 0 from if_pos hz]
    · go_enter Try.func26, Try.ntmps26
      go_wp2_with fail
      refine (HM.out _).mono ?_
      rintro e w' ⟨rfl, rfl⟩
      go_wp2_with fail
      refine (HO.out _).mono ?_
      rintro e w' ⟨rfl, rfl⟩
      go_wp2
      go_ret
      exact ⟨rfl, rfl⟩
  cases hn : nanW w
  case neg.true =>
    have HN := Lib.hid (fun V => isnan_any w V)
    rw [hn] at HN
    rw [show unB a b w = ONE by unfold unB; rw [if_neg hz, if_pos hn]]
    · go_enter Try.func26, Try.ntmps26
      go_wp2_with fail
      refine (HM.out _).mono ?_
      rintro e w' ⟨rfl, rfl⟩
      go_wp2_with fail
      refine (HO.out _).mono ?_
      rintro e w' ⟨rfl, rfl⟩
      go_wp2_with fail
      refine (HN.out _).mono ?_
      rintro e w' ⟨rfl, rfl⟩
      go_wp2
      go_ret
      exact ⟨rfl, rfl⟩
  have HN := Lib.hid (fun V => isnan_any w V)
  rw [hn] at HN
  obtain ⟨k, rfl⟩ := Int.eq_ofNat_of_zero_le b0
  obtain ⟨l, hl⟩ : ∃ l : Nat, a + (k : Int) = l := Int.eq_ofNat_of_zero_le (by omega)
  obtain ⟨q, hq, hqs, hqv⟩ := div_part (k := k) (l := l) (by omega) (by omega) (by omega)
  obtain ⟨s, hs, hsn⟩ := sub_fin (x := q) (y := w) (small_fin hqv) hn
  have hs64 : s < 2 ^ 64 := Format.sub_lt D hs
  rw [show unB a (k : Int) w = unV (rg s) by unfold unB; rw [if_neg hz, if_neg (by rw [hn]; exact Bool.false_ne_true), Int.toNat_natCast, hl, Int.toNat_natCast, hq, Option.getD_some, hs, Option.getD_some]]
  have hdiv : ∀ W, (binOp .quo 22 (.float .f64 (floatOfInt .f64 (k : Int))) (.float .f64 (floatOfInt .f64 (l : Int)))).run Try.prog W = .ok (.float .f64 q) W := by
    intro W
    exact run_float_arith W _ _ _ _ _ _ (by rw [floatOf, floatOf]; exact hq)
  have hsub : ∀ W, (binOp .sub 22 (.float .f64 q) (.float .f64 w)).run Try.prog W = .ok (.float .f64 s) W :=
    fun W => run_float_arith W _ _ _ _ _ _ hs
  have HR := rg_lt s
  have HL := rg_lt s
  have hnr : nanW (rg s) = false := by rw [nan_rg]; exact hsn
  have hmin : ∀ ats t W, (Builtin.min_ ats t #[.float .f64 (rg s), .float .f64 4607182418800017408]).run Try.prog W = .ok (.float .f64 (unV (rg s))) W :=
    fun ats t W => min_run ats t (rg s) HL hnr W
  have HABS := Lib.hid (fun V => abs_call s hs64 V)
  have hXn : nanW (unV (rg s)) = false := by unfold unV; split; exact nan_one; exact hnr
  clear hXn hnr HL HR hs64 hs hsn hq hqs hqv hn
  generalize unV (rg s) = X at *
  generalize rg s = z at *
  go_enter Try.func26, Try.ntmps26
  go_wp2_with fail
  refine (HM.out _).mono ?_
  rintro e w' ⟨rfl, rfl⟩
  go_wp2_with fail
  refine (HO.out _).mono ?_
  rintro e w' ⟨rfl, rfl⟩
  go_wp2_with fail
  refine (HN.out _).mono ?_
  rintro e w' ⟨rfl, rfl⟩
  go_wp2_with fail
  refine (HABS.out _).mono ?_
  rintro e w' ⟨rfl, rfl⟩
  go_wp2
  go_ret
  exact ⟨rfl, rfl⟩

theorem runeven_key (m o : Int) (w : Nat) : ∃ Y : Nat, SameK (unW m o w) Y ∧ ∀ W, Calls Try.prog 18 #[.int .i64 m, .int .i64 o, .float .f64 w] W fun e w' => e = .returned (.float .f64 Y) ∧ W = w' := by
  have RM := Lib.hid (fun V => bounded_any m V)
  have RO := Lib.hid (fun V => bounded_any o V)
  obtain ⟨a0, a1⟩ := bnd_range m
  obtain ⟨b0, b1⟩ := bnd_range o
  unfold unW
  generalize bnd m = a at *
  generalize bnd o = b at *
  by_cases hz : a + b = 0
  · rw [show unB a b w = 0 from if_pos hz]
    refine ⟨0, ⟨nan_zero, nan_zero, rfl⟩, fun W => ?_⟩
    · go_enter Try.func18, Try.ntmps18
      go_wp2_with fail
      refine (RM.out _).mono ?_
      rintro e w' ⟨rfl, rfl⟩
      go_wp2_with fail
      refine (RO.out _).mono ?_
      rintro e w' ⟨rfl, rfl⟩
      go_wp2
      go_ret
      exact ⟨rfl, rfl⟩
  cases hn : nanW w
  case neg.true =>
    have HN := Lib.hid (fun V => isnan_any w V)
    rw [hn] at HN
    rw [show unB a b w = ONE by unfold unB; rw [if_neg hz, if_pos hn]]
    refine ⟨ONE, ⟨nan_one, nan_one, rfl⟩, fun W => ?_⟩
    · go_enter Try.func18, Try.ntmps18
      go_wp2_with fail
      refine (RM.out _).mono ?_
      rintro e w' ⟨rfl, rfl⟩
      go_wp2_with fail
      refine (RO.out _).mono ?_
      rintro e w' ⟨rfl, rfl⟩
      go_wp2_with fail
      refine (HN.out _).mono ?_
      rintro e w' ⟨rfl, rfl⟩
      go_wp2
      go_ret
      exact ⟨rfl, rfl⟩
  have HN := Lib.hid (fun V => isnan_any w V)
  rw [hn] at HN
  obtain ⟨k, rfl⟩ := Int.eq_ofNat_of_zero_le b0
  obtain ⟨l, hl⟩ : ∃ l : Nat, a + (k : Int) = l := Int.eq_ofNat_of_zero_le (by omega)
  obtain ⟨q, hq, hqs, hqv⟩ := div_part (k := k) (l := l) (by omega) (by omega) (by omega)
  obtain ⟨s, hs, hsn⟩ := sub_fin (x := q) (y := w) (small_fin hqv) hn
  have hs64 : s < 2 ^ 64 := Format.sub_lt D hs
  rw [show unB a (k : Int) w = unV (rg s) by unfold unB; rw [if_neg hz, if_neg (by rw [hn]; exact Bool.false_ne_true), Int.toNat_natCast, hl, Int.toNat_natCast, hq, Option.getD_some, hs, Option.getD_some]]
  have hdiv : ∀ W, (binOp .quo 22 (.float .f64 (floatOfInt .f64 (k : Int))) (.float .f64 (floatOfInt .f64 (l : Int)))).run Try.prog W = .ok (.float .f64 q) W := by
    intro W
    exact run_float_arith W _ _ _ _ _ _ (by rw [floatOf, floatOf]; exact hq)
  have hsub : ∀ W, (binOp .sub 22 (.float .f64 q) (.float .f64 w)).run Try.prog W = .ok (.float .f64 s) W :=
    fun W => run_float_arith W _ _ _ _ _ _ hs
  have HR := rg_lt s
  have HL := rg_lt s
  have hnr : nanW (rg s) = false := by rw [nan_rg]; exact hsn
  have hXn : nanW (unV (rg s)) = false := by unfold unV; split; exact nan_one; exact hnr
  have hnan0 : nanW s = false := hsn
  have hsn2 : nanW s = false := hsn
  rcases Int.lt_trichotomy (key s) 0 with c | c | c
  · have hss : sg s = true := by
      cases e : sg s
      · unfold key at c; rw [e] at c; simp only [Bool.false_eq_true, if_false] at c; omega
      · rfl
    have hlt : (FloatKind.f64.format.order s 0 == some .lt) = true := by
      rw [t_lt]; unfold ltF; rw [hnan0, nan_zero, key_zero, decide_eq_true c]; rfl
    have hnn : nanW (Op.negFloat .f64 s) = false := by rw [nan_neg]; exact hnan0
    have hng : Op.negFloat .f64 s = rg s := by
      rw [← word_small (neg_lt hs64) (by rw [sg_neg, hss]; rfl), rg_neg]
    have hnk : key (Op.negFloat .f64 s) = val (rg s) := by rw [hng]; exact key_small HL
    by_cases d : U < val (rg s)
    · have hgt : (FloatKind.f64.format.order (Op.negFloat .f64 s) 4607182418800017408 == some .gt) = true := by
        rw [t_gt]; unfold gtF; rw [hnn, nan_one, key_one', hnk, decide_eq_true (by omega)]; rfl
      refine ⟨ONE, ⟨hXn, nan_one, by rw [unV_gt d]⟩, fun W => ?_⟩
      clear hsn2 hXn hnr HL HR hs64 hs hsn hq hqs hqv hn hnk hng hnn hss c d hnan0
      go_enter Try.func18, Try.ntmps18
      go_wp2_with fail
      refine (RM.out _).mono ?_
      rintro e w' ⟨rfl, rfl⟩
      go_wp2_with fail
      refine (RO.out _).mono ?_
      rintro e w' ⟨rfl, rfl⟩
      go_wp2_with fail
      refine (HN.out _).mono ?_
      rintro e w' ⟨rfl, rfl⟩
      go_wp2
      go_ret
      exact ⟨rfl, rfl⟩
    · have hgt : (FloatKind.f64.format.order (Op.negFloat .f64 s) 4607182418800017408 == some .gt) = false := by
        rw [t_gt]; unfold gtF; rw [hnn, nan_one, key_one', hnk, decide_eq_false (by omega)]; rfl
      refine ⟨Op.negFloat .f64 s, ⟨hXn, hnn, by rw [unV_le (by omega), hng]⟩, fun W => ?_⟩
      clear hsn2 hXn hnr HL HR hs64 hs hsn hq hqs hqv hn hnk hng hnn hss c d hnan0
      go_enter Try.func18, Try.ntmps18
      go_wp2_with fail
      refine (RM.out _).mono ?_
      rintro e w' ⟨rfl, rfl⟩
      go_wp2_with fail
      refine (RO.out _).mono ?_
      rintro e w' ⟨rfl, rfl⟩
      go_wp2_with fail
      refine (HN.out _).mono ?_
      rintro e w' ⟨rfl, rfl⟩
      go_wp2
      go_ret
      exact ⟨rfl, rfl⟩
  · have hlt : (FloatKind.f64.format.order s 0 == some .lt) = false := by
      rw [t_lt]; unfold ltF; rw [hnan0, nan_zero, key_zero, decide_eq_false (by omega)]; rfl
    have hgt : (FloatKind.f64.format.order s 4607182418800017408 == some .gt) = false := by
      have := U_pos
      rw [t_gt]; unfold gtF; rw [hnan0, nan_one, key_one', decide_eq_false (by omega)]; rfl
    have hv0 : val (rg s) = 0 := by
      unfold key at c
      split at c <;> omega
    have hr0 : rg s = 0 := val_inj (by rw [hv0, val_zero])
    refine ⟨s, ⟨hXn, hsn2, ?_⟩, fun W => ?_⟩
    · rw [unV_le (by rw [hv0]; exact Nat.zero_le _), hr0, key_zero, c]
    · clear hsn2 hXn hnr HL HR hs64 hs hsn hq hqs hqv hn c hnan0 hv0 hr0
      go_enter Try.func18, Try.ntmps18
      go_wp2_with fail
      refine (RM.out _).mono ?_
      rintro e w' ⟨rfl, rfl⟩
      go_wp2_with fail
      refine (RO.out _).mono ?_
      rintro e w' ⟨rfl, rfl⟩
      go_wp2_with fail
      refine (HN.out _).mono ?_
      rintro e w' ⟨rfl, rfl⟩
      go_wp2
      go_ret
      exact ⟨rfl, rfl⟩
  · have hlt : (FloatKind.f64.format.order s 0 == some .lt) = false := by
      rw [t_lt]; unfold ltF; rw [hnan0, nan_zero, key_zero, decide_eq_false (by omega)]; rfl
    obtain ⟨hss, hsk⟩ := key_pos c
    have hng : rg s = s := word_small hs64 hss
    by_cases d : U < val (rg s)
    · have hgt : (FloatKind.f64.format.order s 4607182418800017408 == some .gt) = true := by
        rw [t_gt]; unfold gtF; rw [hnan0, nan_one, key_one', hsk, decide_eq_true (by omega)]; rfl
      refine ⟨ONE, ⟨hXn, nan_one, by rw [unV_gt d]⟩, fun W => ?_⟩
      clear hsn2 hXn hnr HL HR hs64 hs hsn hq hqs hqv hn hng hsk hss c d hnan0
      go_enter Try.func18, Try.ntmps18
      go_wp2_with fail
      refine (RM.out _).mono ?_
      rintro e w' ⟨rfl, rfl⟩
      go_wp2_with fail
      refine (RO.out _).mono ?_
      rintro e w' ⟨rfl, rfl⟩
      go_wp2_with fail
      refine (HN.out _).mono ?_
      rintro e w' ⟨rfl, rfl⟩
      go_wp2
      go_ret
      exact ⟨rfl, rfl⟩
    · have hgt : (FloatKind.f64.format.order s 4607182418800017408 == some .gt) = false := by
        rw [t_gt]; unfold gtF; rw [hnan0, nan_one, key_one', hsk, decide_eq_false (by omega)]; rfl
      refine ⟨s, ⟨hXn, hsn2, by rw [unV_le (by omega), hng]⟩, fun W => ?_⟩
      clear hsn2 hXn hnr HL HR hs64 hs hsn hq hqs hqv hn hng hsk hss c d hnan0
      go_enter Try.func18, Try.ntmps18
      go_wp2_with fail
      refine (RM.out _).mono ?_
      rintro e w' ⟨rfl, rfl⟩
      go_wp2_with fail
      refine (RO.out _).mono ?_
      rintro e w' ⟨rfl, rfl⟩
      go_wp2_with fail
      refine (HN.out _).mono ?_
      rintro e w' ⟨rfl, rfl⟩
      go_wp2
      go_ret
      exact ⟨rfl, rfl⟩

/-! ## Three numbers that a test asks for -/
namespace Flo
abbrev HALF : Nat := 4602678819172646912
abbrev TENTH : Nat := 4591870180066957722
theorem key_lt {r s : Nat} (hr : r < 2 ^ 63) (hs : s < 2 ^ 63) (h : s < r) : key s < key r := by
  rw [key_small hr, key_small hs]
  have : ¬ val r ≤ val s := fun h' => absurd ((val_le_iff (r := r) (s := s)).1 h') (by omega)
  omega
theorem un_10_0 : unB 10 0 HALF = HALF := by
  have hd : D.div (whole 0) (whole 10) = some 0 := by decide +kernel
  have hs : D.sub 0 HALF = some (HALF + 2 ^ 63) := by decide +kernel
  have hr : rg (HALF + 2 ^ 63) = HALF := by decide +kernel
  have hn : ¬ nanW HALF = true := by rw [half_key.1]; exact Bool.false_ne_true
  unfold unB
  rw [if_neg (by decide), if_neg hn, show (0 : Int).toNat = 0 from rfl, show (10 + 0 : Int).toNat = 10 from rfl, hd, Option.getD_some, hs, Option.getD_some, hr]
  have h := half_key.2.2
  rw [key_small (by decide)] at h
  exact unV_le (by show val 4602678819172646912 ≤ U; omega)
theorem un_0_10 : unB 0 10 HALF = HALF := by
  have hd : D.div (whole 10) (whole 10) = some ONE := by decide +kernel
  have hs : D.sub ONE HALF = some HALF := by decide +kernel
  have hr : rg HALF = HALF := by decide +kernel
  have hn : ¬ nanW HALF = true := by rw [half_key.1]; exact Bool.false_ne_true
  unfold unB
  rw [if_neg (by decide), if_neg hn, show (10 : Int).toNat = 10 from rfl, show (0 + 10 : Int).toNat = 10 from rfl, hd, Option.getD_some, hs, Option.getD_some, hr]
  have h := half_key.2.2
  rw [key_small (by decide)] at h
  exact unV_le (by show val 4602678819172646912 ≤ U; omega)
theorem un_5_5 : unB 5 5 HALF = 0 := by
  have hd : D.div (whole 5) (whole 10) = some HALF := by decide +kernel
  have hs : D.sub HALF HALF = some 0 := by decide +kernel
  have hr : rg 0 = 0 := by decide +kernel
  have hn : ¬ nanW HALF = true := by rw [half_key.1]; exact Bool.false_ne_true
  unfold unB
  rw [if_neg (by decide), if_neg hn, show (5 : Int).toNat = 5 from rfl, show (5 + 5 : Int).toNat = 10 from rfl, hd, Option.getD_some, hs, Option.getD_some, hr]
  exact unV_le (by rw [val_zero]; exact Nat.zero_le _)
theorem nan_tenth : nanW TENTH = false := by
  unfold nanW
  have : rg 4591870180066957722 = 4591870180066957722 := by unfold rg; omega
  show decide (D.infRung < rg 4591870180066957722) = false
  rw [this, D_inf]
  exact decide_eq_false (by omega)
theorem gt_half : gtF HALF TENTH = true := by
  unfold gtF
  rw [half_key.1, nan_tenth, decide_eq_true (key_lt (by decide) (by decide) (by decide))]
  rfl
theorem gt_nought : gtF 0 TENTH = false := by
  unfold gtF
  have h := key_lt (r := TENTH) (s := 0) (by decide) (by decide) (by decide)
  rw [decide_eq_false (by omega)]
  simp
end Flo
end Go.Proofs.Ytiapmnedbjmmhaa
