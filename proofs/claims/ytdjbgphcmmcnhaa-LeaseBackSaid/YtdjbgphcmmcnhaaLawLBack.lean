/- The law LeaseBack. -/
import Derived.Test.YtdjbgphcmmcnhaaLeaW
import Derived.Test.YtdjbgphcmmcnhaaLeaD
import Derived.Deep.DeepCutAuto
namespace Go.Proofs.Ytdjbgphcmmcnhaa
open Go.RowKit Go.Sort
attribute [local go_sem ↓] run_eqlL run_neqL run_guardL

theorem decL_or (b : List UInt8) : decL b = (zeroL, 2) ∨ ∃ n, decL b = (n, 0) := by
  unfold decL
  split
  · exact .inr ⟨_, rfl⟩
  · exact .inl rfl
theorem decL_ok {b : List UInt8} {n : LV} (h : decL b = (n, 0)) : RightL n ∧ encL n = b ∧ n.addr < 4294967296 := by
  unfold decL at h
  split at h
  · rename_i hd
    injection h with h _
    subst h
    exact ⟨hd.2.1, hd.2.2, dec_addr b⟩
  · injection h with _ h
    cases h

set_option maxRecDepth 100000 in
set_option maxHeartbeats 4000000 in
theorem law_lback (m : LV) (A1 : Option Addr) (c1 : Nat) (b : List UInt8) (w : World) (ha : m.addr < 4294967296) (hb : By w w.heap.size A1 b) (hbc : b.length ≤ c1) (hbl : b.length ≤ 9223372036854775807) :
    Calls Try.prog 5 #[m.v, .slice A1 b.length c1] w fun e w' => e = .returned (.bool true) ∧ Below w.heap.size w w' := by
  obtain ⟨w0, hw0⟩ : ∃ w0, w0 = w.alloc (lbox m) := ⟨_, rfl⟩
  have HX : Hid (LBox w0 w.heap.size m) := Lib.hid (by rw [hw0]; exact LBox.new w m)
  have HB0 : Hid (Below w.heap.size w w0) := Lib.hid (by rw [hw0]; exact (Below.refl _ _).alloc (Nat.le_refl _) _)
  have HY0 : Hid (By w0 w0.heap.size A1 b) := Lib.hid (hb.later HB0.out)
  have HW0 := Lib.hid hw0
  have HE := Lib.hid (fun W => encode_any m ha W)
  clear hw0 hb
  by_cases hbig : 1000 < m.cb.size
  · have hd : decide ((1000 : Int) < (m.cb.size : Int)) = true := by simp; omega
    go_enter Try.func5, Try.ntmps5
    go_wp2_with fail
    rw [← HW0.out]
    refine (awake_any _).mono ?_
    rintro e w1 ⟨rfl, hB1⟩
    have c2 := (HX.out.later hB1).c2
    go_wp2
    go_ret
    exact ⟨rfl, HB0.out.trans (hB1.mono HB0.out.size)⟩
  have hd : decide ((1000 : Int) < (m.cb.size : Int)) = false := by simp; omega
  by_cases hbig2 : 1000 < b.length
  · have hd2 : decide ((1000 : Int) < (b.length : Int)) = true := by simp; omega
    go_enter Try.func5, Try.ntmps5
    go_wp2_with fail
    rw [← HW0.out]
    refine (awake_any _).mono ?_
    rintro e w1 ⟨rfl, hB1⟩
    have c2 := (HX.out.later hB1).c2
    go_wp2
    go_ret
    exact ⟨rfl, HB0.out.trans (hB1.mono HB0.out.size)⟩
  have hd2 : decide ((1000 : Int) < (b.length : Int)) = false := by simp; omega
  have hb1000 : b.length ≤ 140737488355328 := by omega
  clear hbig hbig2
  go_enter Try.func5, Try.ntmps5
  go_wp2_with fail
  rw [← HW0.out]
  refine (awake_any _).mono ?_
  rintro e w1 ⟨rfl, hB1⟩
  have HX1 := Lib.hid (HX.out.later hB1)
  have HB1 := Lib.hid (HB0.out.trans (hB1.mono HB0.out.size))
  have HY1 := Lib.hid (HY0.out.later hB1)
  obtain ⟨c0, c1, c2, c3, c4, c5, c6, c7⟩ := HX1.out.all
  clear hB1
  go_wp2_with fail
  refine (HE.out _).mono ?_
  rintro e w2 ⟨A2, k2, rfl, hby2, hk2, hB2⟩
  clear c0 c1 c2 c3 c4 c5 c6 c7
  have HX2 := Lib.hid (HX1.out.later hB2)
  have HB2 := Lib.hid (HB1.out.trans (hB2.mono HB1.out.size))
  have HY2 := Lib.hid (HY1.out.later hB2)
  clear hB2
  by_cases hr : RightL m
  rotate_left
  · have hR : encR m = ([], 1) := by simp [encR, hr]
    rw [hR]
    clear hr hby2 hk2 HE
    dsimp only
    go_wp2_with fail
    refine (decode_any A1 c1 b w2 HY2.out hbc hb1000).mono ?_
    rintro e w5 ⟨rfl, hB5⟩
    have HB5 := Lib.hid (HB2.out.trans (hB5.mono HB2.out.size))
    have HY5 := Lib.hid (HY2.out.later hB5)
    clear hB5
    rcases decL_or b with hD | ⟨n, hD⟩
    · rw [hD]
      clear hD
      have hz : eqL 0 0 ⟨#[]⟩ 0 0 0 0 0 0 0 ⟨#[]⟩ 0 0 0 0 0 = true := by decide
      have ez : zeroL.v = .agg #[.int .u32 0, .int .i64 0, .string ⟨#[]⟩, .int .i64 0, .int .i64 0, .int .i64 0, .int .i64 0, .int .i64 0] := rfl
      rw [ez]
      go_wp2
      go_ret
      exact ⟨by simp, HB5.out.alloc HB5.out.size _⟩
    · have hN := decL_ok hD
      have hEn : encR n = (b, 0) := by simp [encR, hN.1, hN.2.1]
      have HE5 := Lib.hid (fun W => encode_any n hN.2.2 W)
      simp only [hEn] at HE5
      rw [hD]
      clear hD hN hEn
      have HB6 : Hid (Below w.heap.size w (w5.alloc (lbox n))) := Lib.hid (HB5.out.alloc HB5.out.size _)
      have HY6 : Hid (By (w5.alloc (lbox n)) (w5.alloc (lbox n)).heap.size A1 b) := Lib.hid (HY5.out.later ((Below.refl _ _).alloc (Nat.le_refl _) _))
      go_wp2_with fail
      refine (HE5.out _).mono ?_
      rintro e w7 ⟨A7, k7, rfl, hby7, _, hB7⟩
      have hs1 := str_run k7 hby7
      have hs2 := str_run c1 (HY6.out.later hB7)
      have hself : (b == b) = true := by simp
      have HB7 := Lib.hid (HB6.out.trans (hB7.mono HB6.out.size))
      clear hby7 hB7
      go_wp2
      go_ret
      exact ⟨by simp, HB7.out⟩
  · have hR : encR m = (encL m, 0) := by simp [encR, hr]
    rw [hR] at hby2 hk2 ⊢
    dsimp only at hby2 hk2 ⊢
    have HD := Lib.hid (decode_any A2 k2 (encL m) w2 hby2 hk2 (by rw [encL_length]; have := hr.short; omega))
    simp only [dec_enc hr ha] at HD
    have hself : eqL (m.addr : Int) m.bind m.cb m.unt m.acked m.told m.at_ m.ver (m.addr : Int) m.bind m.cb m.unt m.acked m.told m.at_ m.ver = true := by rw [eqL_of]; simp
    clear hr hR hby2 hk2 HE
    go_wp2_with fail
    refine HD.out.mono ?_
    rintro e w3 ⟨rfl, hB3⟩
    obtain ⟨w4, hw4⟩ : ∃ w4, w4 = w3.alloc (lbox m) := ⟨_, rfl⟩
    have hB4 : Below w3.heap.size w3 w4 := by rw [hw4]; exact (Below.refl _ _).alloc (Nat.le_refl _) _
    have HN4 : Hid (LBox w4 w3.heap.size m) := Lib.hid (by rw [hw4]; exact LBox.new w3 m)
    have HX4 := Lib.hid ((HX2.out.later hB3).later hB4)
    have HB4 := Lib.hid ((HB2.out.trans (hB3.mono HB2.out.size)).trans (hB4.mono (HB2.out.trans (hB3.mono HB2.out.size)).size))
    have HY4 := Lib.hid ((HY2.out.later hB3).later hB4)
    have HW4 := Lib.hid hw4
    clear hB3 hB4 hw4
    go_upto_region 7 with fail
    rw [← HW4.out]
    obtain ⟨c0, c1, c2, c3, c4, c5, c6, c7⟩ := HX4.out.all
    obtain ⟨d0, d1, d2, d3, d4, d5, d6, d7⟩ := HN4.out.all
    go_wp2_with fail
    clear c0 c1 c2 c3 c4 c5 c6 c7
    clear d0 d1 d2 d3 d4 d5 d6 d7
    refine (decode_any A1 c1 b w4 HY4.out hbc hb1000).mono ?_
    rintro e w5 ⟨rfl, hB5⟩
    have HB5 := Lib.hid (HB4.out.trans (hB5.mono HB4.out.size))
    have HY5 := Lib.hid (HY4.out.later hB5)
    clear hB5
    rcases decL_or b with hD | ⟨n, hD⟩
    · rw [hD]
      clear hD
      have hz : eqL 0 0 ⟨#[]⟩ 0 0 0 0 0 0 0 ⟨#[]⟩ 0 0 0 0 0 = true := by decide
      have ez : zeroL.v = .agg #[.int .u32 0, .int .i64 0, .string ⟨#[]⟩, .int .i64 0, .int .i64 0, .int .i64 0, .int .i64 0, .int .i64 0] := rfl
      rw [ez]
      go_wp2
      go_ret
      exact ⟨by simp, HB5.out.alloc HB5.out.size _⟩
    · have hN := decL_ok hD
      have hEn : encR n = (b, 0) := by simp [encR, hN.1, hN.2.1]
      have HE5 := Lib.hid (fun W => encode_any n hN.2.2 W)
      simp only [hEn] at HE5
      rw [hD]
      clear hD hN hEn
      have HB6 : Hid (Below w.heap.size w (w5.alloc (lbox n))) := Lib.hid (HB5.out.alloc HB5.out.size _)
      have HY6 : Hid (By (w5.alloc (lbox n)) (w5.alloc (lbox n)).heap.size A1 b) := Lib.hid (HY5.out.later ((Below.refl _ _).alloc (Nat.le_refl _) _))
      go_wp2_with fail
      refine (HE5.out _).mono ?_
      rintro e w7 ⟨A7, k7, rfl, hby7, _, hB7⟩
      have hs1 := str_run k7 hby7
      have hs2 := str_run c1 (HY6.out.later hB7)
      have hself : (b == b) = true := by simp
      have HB7 := Lib.hid (HB6.out.trans (hB7.mono HB6.out.size))
      clear hby7 hB7
      go_wp2
      go_ret
      exact ⟨by simp, HB7.out⟩
end Go.Proofs.Ytdjbgphcmmcnhaa
