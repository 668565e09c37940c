/- lessorref11.Encode. -/
import Derived.Test.YtdjbgphcmmcnhaaLeaQ
import Derived.Test.YtdjbgphcmmcnhaaLeaN
import Derived.Test.YtdjbgphcmmcnhaaLeaE
namespace Go.Proofs.Ytdjbgphcmmcnhaa
open Go.RowKit Go.Sort

theorem rowQ {w w2 : World} {o : Obj} {v : Value} {l : List UInt8} (h : Row (w.alloc o).drew w2 v l) : Row w w2 v l := h.base ((Below.refl _ w).alloc (Nat.le_refl _) _).drew
theorem rowD {w w2 : World} {v : Value} {l : List UInt8} (h : Row w.drew w2 v l) : Row w w2 v l := h.base ⟨rfl, rfl, rfl, Nat.le_refl _, fun _ _ => rfl⟩

set_option maxRecDepth 100000 in
set_option maxHeartbeats 4000000 in
theorem rencode_any (m : LV) (ha : m.addr < 4294967296) (w : World) :
    Calls Try.prog 9 #[m.v] w (GivesB w (encR m).1 (encR m).2) := by
  obtain ⟨w0, hw0⟩ : ∃ w0, w0 = w.alloc (lbox m) := ⟨_, rfl⟩
  have HX : Hid (LBox w0 w.heap.size m) := Lib.hid (by rw [hw0]; exact LBox.new w m)
  have HB0 : Hid (Below w.heap.size w w0) := Lib.hid (by rw [hw0]; exact (Below.refl _ _).alloc (Nat.le_refl _) _)
  have HW0 := Lib.hid hw0
  have HR := Lib.hid (fun W => rright_any m W)
  clear hw0
  by_cases hr : RightL m
  rotate_left
  · have HE := Lib.hid (show encR m = ([], 1) by simp [encR, hr])
    simp only [decide_eq_false hr] at HR
    clear hr
    obtain ⟨c0, c1, c2, c3, c4, c5, c6, c7⟩ := HX.out.all
    go_enter Try.func9, Try.ntmps9
    go_wp2_with fail
    rw [← HW0.out]
    refine (HR.out _).mono ?_
    rintro e w1 ⟨rfl, hB1⟩
    go_wp2
    go_ret2
    rw [HE.out]
    exact ⟨none, 0, rfl, By.nil, Nat.le_refl _, HB0.out.trans (hB1.mono HB0.out.size)⟩
  · have HE := Lib.hid (show encR m = (encL m, 0) by simp [encR, hr])
    simp only [decide_eq_true hr] at HR
    have hcs := hr.short
    have hb0 := hr.b0
    have hb1 : m.bind < 256 := by have := hr.b1; omega
    have hz1 : m.cb.size < 256 := by rw [m.cb_size]; omega
    have hz2 : ∀ k : Nat, k ≤ 37 + 1 → k + m.cb.size ≤ 140737488355328 := fun k hk => by rw [m.cb_size]; omega
    have hwa : IntKind.i64.wrap (m.addr : Int) = m.addr := by rw [IntKind.wrap_i64]; omega
    have hwb : IntKind.u8.wrap m.bind = m.bind := by simp [IntKind.wrap, IntKind.bits, IntKind.signed]; omega
    have HN0 : Hid (∀ W, Calls Try.prog 20 #[.int .i64 (m.addr : Int), .int .i64 4] W fun e w' => ∃ A c d, e = .returned (.slice A d.length c) ∧ Hid (d = beL (m.addr : Int).toNat 4) ∧ d.length ≤ 6 ∧ Row W w' (.slice A d.length c) d) := Lib.hid (fun W => rnum_row (m.addr : Int) (by omega) (by omega) 4 (by omega) (by omega) W)
    have HN3 : Hid (∀ W, Calls Try.prog 20 #[.int .i64 m.unt, .int .i64 6] W fun e w' => ∃ A c d, e = .returned (.slice A d.length c) ∧ Hid (d = beL m.unt.toNat 6) ∧ d.length ≤ 6 ∧ Row W w' (.slice A d.length c) d) := Lib.hid (fun W => rnum_row m.unt hr.unt.1 (by have := hr.unt.2; omega) 6 (by omega) (by omega) W)
    have HN4 : Hid (∀ W, Calls Try.prog 20 #[.int .i64 m.acked, .int .i64 6] W fun e w' => ∃ A c d, e = .returned (.slice A d.length c) ∧ Hid (d = beL m.acked.toNat 6) ∧ d.length ≤ 6 ∧ Row W w' (.slice A d.length c) d) := Lib.hid (fun W => rnum_row m.acked hr.acked.1 (by have := hr.acked.2; omega) 6 (by omega) (by omega) W)
    have HN5 : Hid (∀ W, Calls Try.prog 20 #[.int .i64 m.told, .int .i64 6] W fun e w' => ∃ A c d, e = .returned (.slice A d.length c) ∧ Hid (d = beL m.told.toNat 6) ∧ d.length ≤ 6 ∧ Row W w' (.slice A d.length c) d) := Lib.hid (fun W => rnum_row m.told hr.told.1 (by have := hr.told.2; omega) 6 (by omega) (by omega) W)
    have HN6 : Hid (∀ W, Calls Try.prog 20 #[.int .i64 m.at_, .int .i64 6] W fun e w' => ∃ A c d, e = .returned (.slice A d.length c) ∧ Hid (d = beL m.at_.toNat 6) ∧ d.length ≤ 6 ∧ Row W w' (.slice A d.length c) d) := Lib.hid (fun W => rnum_row m.at_ hr.at_.1 (by have := hr.at_.2; omega) 6 (by omega) (by omega) W)
    have HN7 : Hid (∀ W, Calls Try.prog 20 #[.int .i64 m.ver, .int .i64 6] W fun e w' => ∃ A c d, e = .returned (.slice A d.length c) ∧ Hid (d = beL m.ver.toNat 6) ∧ d.length ≤ 6 ∧ Row W w' (.slice A d.length c) d) := Lib.hid (fun W => rnum_row m.ver hr.ver.1 (by have := hr.ver.2; omega) 6 (by omega) (by omega) W)
    have hwc : IntKind.u8.wrap (m.cb.size : Int) = m.cb.size := by rw [m.cb_size]; simp [IntKind.wrap, IntKind.bits, IntKind.signed]; omega
    clear hr
    obtain ⟨c0, c1, c2, c3, c4, c5, c6, c7⟩ := HX.out.all
    go_enter Try.func9, Try.ntmps9
    go_wp2_with fail
    rw [← HW0.out]
    refine (HR.out _).mono ?_
    rintro e w1 ⟨rfl, hB1⟩
    clear c0 c1 c2 c3 c4 c5 c6 c7
    have HX1 := Lib.hid (HX.out.later hB1)
    have HB1 := Lib.hid (HB0.out.trans (hB1.mono HB0.out.size))
    clear hB1
    go_upto_region 4 with fail
    go_cut [5] (fun s5 wx => ∃ A c l, s5 = .slice A l.length c ∧ Hid (l = beL m.addr 4 ++ [UInt8.ofNat m.bind.toNat]) ∧ l.length ≤ 7 ∧ Row w1 wx (.slice A l.length c) l)
    case first =>
      have c0 := HX1.out.c0
      have c1 := HX1.out.c1
      go_region_held3 (fun w' => w'.cell? ⟨w.heap.size, 0, none⟩ = some (.int .u32 (m.addr : Int)) ∧ w'.cell? ⟨w.heap.size, 1, none⟩ = some (.int .i64 m.bind))
        (first | go_keep | exact ⟨(HX1.out.later hB2).c0, (HX1.out.later hB2).c1⟩ | exact ⟨(HX1.out.later hR3.low).c0, (HX1.out.later hR3.low).c1⟩)
        (first
          | (go_at_call 20; (with_reducible refine (HN0.out _).mono ?_); rintro e w2 ⟨A1, k1, d1, rfl, HD1, hd1, hRc⟩; have hBc := hRc.low; have hR1 := (by first | exact rowQ hRc | exact rowD hRc | exact hRc : Row w1 w2 (.slice A1 d1.length k1) d1); have hB2 := hR1.low; have hx2 := fun h => (newA w1 w2 m.bind hb0 hb1 h).1)
          | (refine step_rowV rfl (.tmp 13) (.tmp 17) rfl rfl hR1 [UInt8.ofNat m.bind.toNat] rfl rfl (hx2 hBc) 6 1 hd1 (Nat.le_refl _) (by omega) ?_; intro A3 k3 w3 l3 HL3 hl3 hR3 hk3 hby3 hg3)
          | (refine step_rowV rfl (.tmp 13) (.tmp 17) rfl rfl (hR1.alloc _) [UInt8.ofNat m.bind.toNat] rfl rfl (oneI w2 _ m.bind hb0 hb1) 6 1 hd1 (Nat.le_refl _) (by omega) ?_; intro A3 k3 w3 l3 HL3 hl3 hR3 hk3 hby3 hg3))
      all_goals
        go_wp2_with fail
        go_meet
        exact ⟨A3, k3, l3, rfl, Lib.hid (by rw [HL3.out, HD1.out]; rfl), hl3, hR3⟩
    case rest =>
      obtain ⟨A3, k3, l3, hs5, HL3, hl3, R3⟩ := hcut
      subst hs5
      have c3 := (HX1.out.later R3.low).c3
      go_wp2_with fail
      refine (HN3.out _).mono ?_
      rintro e v5 ⟨B5, b5, d5, rfl, HD5, hd5, hQ5⟩
      have S5 := R3.later hQ5.low
      have hy5 := By.of_own hQ5.own
      clear R3 c3 hQ5
      go_wp2_with (at_builtin; refine wpList_rowV rfl (.tmp 19) (.tmp 22) rfl rfl S5 d5 rfl rfl hy5 7 6 hl3 hd5 (by omega) ?_; intro A5 k5 w5 l5 HL5 hl5 R5 _ _; have c4 := (HX1.out.later R5.low).c4)
      clear S5 hy5
      go_wp2_with fail
      refine (HN4.out _).mono ?_
      rintro e v6 ⟨B6, b6, d6, rfl, HD6, hd6, hQ6⟩
      have S6 := R5.later hQ6.low
      have hy6 := By.of_own hQ6.own
      clear R5 c4 hQ6
      go_wp2_with (at_builtin; refine wpList_rowV rfl (.tmp 24) (.tmp 27) rfl rfl S6 d6 rfl rfl hy6 13 6 hl5 hd6 (by omega) ?_; intro A6 k6 w6 l6 HL6 hl6 R6 _ _; have c5 := (HX1.out.later R6.low).c5)
      clear S6 hy6
      go_wp2_with fail
      refine (HN5.out _).mono ?_
      rintro e v7 ⟨B7, b7, d7, rfl, HD7, hd7, hQ7⟩
      have S7 := R6.later hQ7.low
      have hy7 := By.of_own hQ7.own
      clear R6 c5 hQ7
      go_wp2_with (at_builtin; refine wpList_rowV rfl (.tmp 29) (.tmp 32) rfl rfl S7 d7 rfl rfl hy7 19 6 hl6 hd7 (by omega) ?_; intro A7 k7 w7 l7 HL7 hl7 R7 _ _; have c6 := (HX1.out.later R7.low).c6)
      clear S7 hy7
      go_wp2_with fail
      refine (HN6.out _).mono ?_
      rintro e v8 ⟨B8, b8, d8, rfl, HD8, hd8, hQ8⟩
      have S8 := R7.later hQ8.low
      have hy8 := By.of_own hQ8.own
      clear R7 c6 hQ8
      go_wp2_with (at_builtin; refine wpList_rowV rfl (.tmp 34) (.tmp 37) rfl rfl S8 d8 rfl rfl hy8 25 6 hl7 hd8 (by omega) ?_; intro A8 k8 w8 l8 HL8 hl8 R8 _ _; have c7 := (HX1.out.later R8.low).c7)
      clear S8 hy8
      go_wp2_with fail
      refine (HN7.out _).mono ?_
      rintro e v9 ⟨B9, b9, d9, rfl, HD9, hd9, hQ9⟩
      have S9 := R8.later hQ9.low
      have hy9 := By.of_own hQ9.own
      clear R8 c7 hQ9
      go_wp2_with (first
        | (at_builtin; refine wpList_rowV rfl (.tmp 39) (.tmp 42) rfl rfl S9 d9 rfl rfl hy9 31 6 hl8 hd9 (by omega) ?_; intro A9 k9 w9 l9 HL9 hl9 R9 _ _; have c2 := (HX1.out.later R9.low).c2)
        | (at_builtin; refine wpList_rowV rfl (.tmp 44) (.tmp 49) rfl rfl (R9.alloc _) [UInt8.ofNat m.cb.size] rfl rfl (oneN w9 _ m.cb.size hz1) 37 1 hl9 (Nat.le_refl _) (by omega) ?_; intro A10 k10 w10 l10 HL10 hl10 R10 _ _; have d2 := (HX1.out.later R10.low).c2)
        | (at_builtin; refine wpList_rowS rfl (.tmp 51) (.tmp 53) rfl rfl R10 m.cb rfl (hz2 _ hl10) ?_; intro A11 k11 w11 l11 HL11 R11 hk11 hby11))
      have HL : Hid (encL m = l11) := Lib.hid (by rw [HL11.out, HL10.out, HL9.out, HL8.out, HL7.out, HL6.out, HL5.out, HL3.out, HD5.out, HD6.out, HD7.out, HD8.out, HD9.out, m.cb_data, m.cb_size]; simp [encL])
      go_ret2
      rw [HE.out]
      show GivesB _ (encL m) 0 _ _
      rw [HL.out]
      exact ⟨A11, k11, rfl, hby11, hk11, HB1.out.trans (R11.low.mono HB1.out.size)⟩
end Go.Proofs.Ytdjbgphcmmcnhaa
