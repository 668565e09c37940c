/- The law OptionNumbers. -/
import Derived.Test.YtgmebonhhbdofaaRefN
namespace Go.Proofs.Ytgmebonhhbdofaa
open Go.RowKit

theorem beL_succ (n m : Nat) : beL n (m + 1) = beL (n / 256) m ++ [UInt8.ofNat n] := by
  unfold beL
  rw [List.range_succ, List.map_append]
  congr 1
  · apply List.map_congr_left
    intro i hi
    have hi' := List.mem_range.1 hi
    rw [Nat.div_div_eq_div_mul, ← Nat.pow_succ', show (m - 1 - i).succ = m + 1 - 1 - i by omega]
  · simp
theorem numL_beL (n m : Nat) : numL (beL n m) = n % 256 ^ m := by
  induction m generalizing n with
  | zero => simp [beL, numL, Nat.mod_one]
  | succ m ih =>
    rw [beL_succ, numL_snoc, ih, UInt8.toNat_ofNat', show (256 : Nat) ^ (m + 1) = 256 * 256 ^ m from Nat.pow_succ', Nat.mod_mul]
    omega
theorem beL_numL (l : List UInt8) : beL (numL l) l.length = l := by
  rw [← l.reverse_reverse]
  generalize l.reverse = r
  induction r with
  | nil => rfl
  | cons x r ih =>
    rw [List.reverse_cons, numL_snoc, List.length_append, List.length_singleton, beL_succ]
    have hx := x.toNat_lt
    rw [show (numL r.reverse * 256 + x.toNat) / 256 = numL r.reverse by omega, ih]
    congr 2
    apply UInt8.toNat_inj.1
    rw [UInt8.toNat_ofNat']
    omega

theorem num_cases (l : List UInt8) : numR l = (0, 2) ∨ (numR l = (((numL l : Nat) : Int), 0) ∧ bytR ((numL l : Nat) : Int) (l.length : Int) = (l, 0)) := by
  cases hs : sizedB (l.length : Int)
  · left
    unfold numR
    rw [hs]
    rfl
  · right
    refine ⟨by unfold numR; rw [hs]; rfl, ?_⟩
    rw [bytR_ok hs (numL_lt l), beL_numL]

theorem byt_cases (n many : Int) : bytR n many = ([], 1) ∨ ∃ bl, bytR n many = (bl, 0) ∧ numR bl = (n, 0) ∧ bl.length ≤ 1000 := by
  cases hs : sizedB many
  · exact .inl (bytR_bad_many hs)
  · by_cases hn : n < 0
    · exact .inl (bytR_neg hn)
    · obtain ⟨m, rfl⟩ : ∃ m : Nat, many = m := ⟨many.toNat, by simp [sizedB] at hs; omega⟩
      obtain ⟨q, rfl⟩ : ∃ q : Nat, n = q := ⟨n.toNat, by omega⟩
      by_cases hb : q < 256 ^ m
      · refine .inr ⟨_, bytR_ok hs hb, ?_, by rw [beL_length]; simp [sizedB] at hs; omega⟩
        unfold numR
        rw [beL_length, hs, numL_beL, Nat.mod_eq_of_lt hb]
        rfl
      · exact .inl (bytR_big (Nat.le_of_not_lt hb))

set_option maxRecDepth 100000 in
set_option maxHeartbeats 2000000 in
theorem law_numbers (A : Option Addr) (c : Nat) (l : List UInt8) (n many : Int) (hn : n < 9223372036854775808) (w : World) (h : By w w.heap.size A l) (hlm : l.length ≤ 9223372036854775807) :
    Calls Try.prog 6 #[.slice A l.length c, .int .i64 n, .int .i64 many] w fun e w' => e = .returned (.bool true) ∧ Below w.heap.size w w' := by
  have HA := Lib.hid (awake_any w)
  have H := Lib.hid h
  clear h
  by_cases hbig : 1000 < l.length
  · go_enter Try.func6, Try.ntmps6
    go_wp2_with fail
    refine HA.out.mono ?_
    rintro e w1 ⟨rfl, hB1⟩
    go_wp2
    go_ret
    exact ⟨rfl, hB1⟩
  · have hd : decide ((1000 : Int) < (l.length : Int)) = false := by simp; omega
    have HN := Lib.hid (num_cases l)
    have HY := Lib.hid (byt_cases n many)
    go_enter Try.func6, Try.ntmps6
    go_wp2_with fail
    refine HA.out.mono ?_
    rintro e w1 ⟨rfl, hB1⟩
    have H1 := Lib.hid (H.out.later hB1)
    go_wp2_with fail
    refine (number_any A c l w1 H1.out (by omega)).mono ?_
    rintro e w' ⟨rfl, rfl⟩
    go_wp2_with fail
    refine (rnumber_any A c l w1 H1.out (by omega)).mono ?_
    rintro e w' ⟨rfl, rfl⟩
    go_wp2_with fail
    refine (bytes_any n many w1).mono ?_
    rintro e w2 ⟨A2, c2, rfl, hby2, hc2, hB2⟩
    go_wp2_with fail
    refine (rbytes_any n many hn w2).mono ?_
    rintro e w3 ⟨A3, c3, rfl, hby3, hc3, hB3⟩
    have hby2' := hby2.later hB3
    clear hby2
    have hBw : Below w.heap.size w w3 := hB1.trans ((hB2.mono hB1.size).trans (hB3.mono (Nat.le_trans hB1.size hB2.size)))
    have H3 := Lib.hid (H1.out.later (hB2.trans (hB3.mono hB2.size)))
    rcases HY.out with hy | ⟨bl, hy, hny, hbl⟩
    · rw [hy] at hby2' hby3 ⊢
      have hs2 : (convert 25 9 (.slice A2 0 c2)).run Try.prog w3 = .ok (.string ⟨#[]⟩) w3 := str_run c2 hby2'
      have hs3 : (convert 25 9 (.slice A3 0 c3)).run Try.prog w3 = .ok (.string ⟨#[]⟩) w3 := str_run c3 hby3
      dsimp only
      rcases HN.out with hx | ⟨hx, hxy⟩
      · rw [hx]
        clear hx hy
        dsimp only
        go_wp2
        go_ret
        exact ⟨rfl, hBw⟩
      · rw [hx]
        have HXY := Lib.hid hxy
        clear hx hy hxy
        dsimp only
        have hself : (((numL l : Nat) : Int) != ((numL l : Nat) : Int)) = false := by simp
        go_wp2_with fail
        refine (bytes_any ((numL l : Nat) : Int) (l.length : Int) w3).mono ?_
        rw [HXY.out]
        rintro e w4 ⟨A4, c4, rfl, hby4, hc4, hB4⟩
        have hs4 := str_run c4 hby4
        have hs5 := str_run c (H3.out.later hB4)
        clear hs2 hs3
        go_wp2
        go_ret
        exact ⟨by simp, hBw.trans (hB4.mono hBw.size)⟩
    · rw [hy] at hby2' hby3 ⊢
      have hs2 := str_run c2 hby2'
      have hs3 := str_run c3 hby3
      dsimp only at hs2 hs3 ⊢
      have HNY := Lib.hid hny
      have HB2 := Lib.hid hby2'
      have hselfn : (n != n) = false := by simp
      rcases HN.out with hx | ⟨hx, hxy⟩
      · rw [hx]
        clear hx hy hny hby2'
        dsimp only
        go_wp2_with fail
        refine (number_any A2 c2 bl w3 HB2.out hbl).mono ?_
        rw [HNY.out]
        rintro e w' ⟨rfl, rfl⟩
        dsimp only
        go_wp2
        go_ret
        exact ⟨rfl, hBw⟩
      · rw [hx]
        have HXY := Lib.hid hxy
        clear hx hy hxy hny hby2'
        dsimp only
        have hself : (((numL l : Nat) : Int) != ((numL l : Nat) : Int)) = false := by simp
        go_wp2_with fail
        refine (number_any A2 c2 bl w3 HB2.out hbl).mono ?_
        rw [HNY.out]
        rintro e w' ⟨rfl, rfl⟩
        dsimp only
        go_wp2_with fail
        refine (bytes_any ((numL l : Nat) : Int) (l.length : Int) w3).mono ?_
        rw [HXY.out]
        rintro e w4 ⟨A4, c4, rfl, hby4, hc4, hB4⟩
        have hs4 := str_run c4 hby4
        have hs5 := str_run c (H3.out.later hB4)
        clear hs2 hs3
        go_wp2
        go_ret
        exact ⟨by simp, hBw.trans (hB4.mono hBw.size)⟩
end Go.Proofs.Ytgmebonhhbdofaa
