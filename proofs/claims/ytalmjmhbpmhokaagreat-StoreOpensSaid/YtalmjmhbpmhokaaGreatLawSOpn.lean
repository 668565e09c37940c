/- The law StoreOpens, over any table of the program's. -/
import Derived.Test.YtalmjmhbpmhokaaGreatMrgStoK
namespace Go.Proofs.YtalmjmhbpmhokaaGreat
open Go.RowKit Go.Sort

set_option maxRecDepth 100000 in
set_option maxHeartbeats 2000000 in
theorem law_sopens {T : TabT} (K : TabK T) (A A2 : Option Addr) (c c2 : Nat) (b : List UInt8) (l : List (Nat × Nat)) (w : World) (hb : By w w.heap.size A b) (hR : Rg w w.heap.size A2 l) (hbl : b.length ≤ 9223372036854775807) (hl : l.length ≤ 9223372036854775807) :
    Calls Tryz.prog 4 #[.slice A b.length c, .slice A2 l.length c2] w fun e w' => e = .returned (.bool true) ∧ Below w.heap.size w w' := by
  have HA := Lib.hid (sawake_any K w)
  have HK := Lib.hid K
  have HBY := Lib.hid (fun W (h : Below w.heap.size w W) => hb.below h)
  have HRG := Lib.hid (fun W (h : Below w.heap.size w W) => (hR.below h).more h.size)
  clear hb hR K
  go_enter Tryz.func4, Tryz.ntmps4
  go_wp2_with fail
  refine HA.out.mono ?_
  rintro e w1 ⟨rfl, hb1⟩
  have HB1 := Lib.hid hb1
  clear hb1
  by_cases h1 : 3000 < b.length
  · go_wp2
    go_ret
    exact ⟨rfl, HB1.out⟩
  by_cases h2 : 50 < l.length
  · go_wp2
    go_ret
    exact ⟨rfl, HB1.out⟩
  have hb3 : (b.length : Int) ≤ 3000 := by omega
  have hl5 : (l.length : Int) ≤ 50 := by omega
  have HN := Lib.hid (dk_new w1 5000 (by decide) (by decide))
  go_wp2_with fail
  refine HN.out.mono ?_
  rintro e w2 ⟨rfl, hd2, hB2⟩
  obtain ⟨D, hD⟩ : ∃ D, D = w1.heap.size := ⟨_, rfl⟩
  obtain ⟨B, hBB⟩ : ∃ B, B = w.heap.size := ⟨_, rfl⟩
  have hBD : B ≤ D := by have := HB1.out.size; omega
  rw [← hD] at hd2 ⊢
  have HD2 : Hid (Dk DT w2 (· = D) D ⟨5000, [], 0, -1⟩) := Lib.hid hd2
  have HB2 := Lib.hid (HB1.out.trans (hB2.mono HB1.out.size))
  have HBD := Lib.hid hBD
  have HDlt : Hid (D < w2.heap.size) := Lib.hid (hd2.lt D rfl)
  have HBB := Lib.hid hBB
  have HNR := Lib.hid (rdk_new w2 5000 (by decide) (by decide))
  clear hd2 hB2 hD hBD HN hBB
  go_wp2_with fail
  refine HNR.out.mono ?_
  rintro e w3 ⟨rfl, hr3, hB3⟩
  obtain ⟨R, hR⟩ : ∃ R, R = w2.heap.size := ⟨_, rfl⟩
  rw [← hR] at hr3 ⊢
  have HAP3 : Hid (Apt B (· = D) (· = R)) := Lib.hid (Apt.two HBD.out (by have := HDlt.out; omega))
  have HD3 := Lib.hid (HD2.out.later hB3)
  have HR3 : Hid (Dk RT w3 (· = R) R ⟨5000, [], 0, -1⟩) := Lib.hid hr3
  have HB3 := Lib.hid (HB2.out.trans (hB3.mono HB2.out.size))
  have HS3 : Hid (B ≤ w3.heap.size) := Lib.hid (by have := HB3.out.size; have := HBB.out; omega)
  have HC := dk_append (c := c) HD3.out (HBY.out w3 HB3.out) HB3.out.size (fun k hk => by have := HAP3.out.l1 k hk; have := HBB.out; omega)
  rw [laid5 (by omega)] at HC
  have HC := Lib.hid HC
  clear hr3 hB3 hR HNR
  go_wp2_with fail
  refine HC.out.mono ?_
  rintro e w4 ⟨rfl, Q4, d4, hw4⟩
  obtain ⟨ap4, kp4, low4⟩ := HAP3.out.first hw4 HS3.out HR3.out.lt
  have HD4 := Lib.hid d4
  have HR4 := Lib.hid (HR3.out.keep kp4)
  have HAP4 := Lib.hid ap4
  have HB4 := Lib.hid (HB3.out.trans (by rw [HBB.out] at low4; exact low4))
  have HS4 : Hid (B ≤ w4.heap.size) := Lib.hid (Nat.le_trans HS3.out hw4.size)
  have HC4 := rdk_append (c := c) HR4.out (HBY.out w4 HB4.out) HB4.out.size (fun k hk => by have := HAP4.out.l2 k hk; have := HBB.out; omega) (by omega)
  rw [laid5 (by omega)] at HC4
  have HC4 := Lib.hid HC4
  clear d4 hw4 ap4 kp4 low4
  go_wp2_with fail
  refine HC4.out.mono ?_
  rintro e w5 ⟨rfl, R5, r5, hw5⟩
  obtain ⟨ap5, kp5, low5⟩ := HAP4.out.second hw5 HS4.out HD4.out.lt
  have HD5 := Lib.hid (HD4.out.keep kp5)
  have HR5 := Lib.hid r5
  have HAP5 := Lib.hid ap5
  have HB5 := Lib.hid (HB4.out.trans (by rw [HBB.out] at low5; exact low5))
  have HS5 : Hid (B ≤ w5.heap.size) := Lib.hid (Nat.le_trans HS4.out hw5.size)
  obtain ⟨s, hs⟩ : ∃ s : DS, s = ⟨5000, b, 0, -1⟩ := ⟨_, rfl⟩
  have HD5 : Hid (Dk DT w5 Q4 D s) := Lib.hid (by rw [hs]; exact HD5.out)
  have HR5 : Hid (Dk RT w5 R5 R s) := Lib.hid (by rw [hs]; exact HR5.out)
  have HO := Lib.hid (sopen_any HK.out HD5.out A2 c2 l (HRG.out w5 HB5.out) (by omega))
  clear r5 hw5 ap5 kp5 low5 hs
  go_wp2_with fail
  refine HO.out.mono ?_
  rintro e w6 ⟨ol, code, hres, (⟨hc, rfl, hB6⟩ | ⟨rfl, h0, rfl, Q6, d6, hw6⟩ | ⟨rfl, h0, S, rfl, Q6, d6, hw6⟩)⟩
  · have HRES := Lib.hid hres
    have HC0 := Lib.hid hc
    have HB6 := Lib.hid (HB5.out.trans (hB6.mono HB5.out.size))
    have HO6 := Lib.hid (rsopen_any (HR5.out.later hB6) A2 c2 l (HRG.out w6 HB6.out) (by omega))
    clear hres hB6 hc
    go_wp2_with fail
    refine HO6.out.mono ?_
    rintro e w7 ⟨om, code2, hres2, hh⟩
    obtain ⟨rfl, rfl⟩ := res_agree HRES.out hres2
    rcases hh with ⟨hc, rfl, hB7⟩ | ⟨hc, _⟩ | ⟨hc, _⟩
    · have HB7 := Lib.hid (HB6.out.trans (hB7.mono HB6.out.size))
      have hd : (code != code) = false := by simp
      clear hc hB7 hres2
      go_wp2
      go_ret
      exact ⟨rfl, HB7.out⟩
    · exact absurd hc HC0.out
    · exact absurd hc HC0.out
  · obtain ⟨ap6, kp6, low6⟩ := HAP5.out.first hw6 HS5.out HR5.out.lt
    have HRES := Lib.hid hres
    have HR6 := Lib.hid (HR5.out.keep kp6)
    have HB6 := Lib.hid (HB5.out.trans (by rw [HBB.out] at low6; exact low6))
    have HS6 : Hid (B ≤ w6.heap.size) := Lib.hid (Nat.le_trans HS5.out hw6.size)
    have HAP6 := Lib.hid ap6
    have HD6 := Lib.hid d6
    have H0 := Lib.hid h0
    have HO6 := Lib.hid (rsopen_any HR6.out A2 c2 l (HRG.out w6 HB6.out) (by omega))
    clear hres d6 hw6 ap6 kp6 low6 h0
    go_wp2_with fail
    refine HO6.out.mono ?_
    rintro e w7 ⟨om, code2, hres2, hh⟩
    obtain ⟨rfl, rfl⟩ := res_agree HRES.out hres2
    rcases hh with ⟨hc, _⟩ | ⟨_, hc, rfl, R7, r7, hw7⟩ | ⟨_, hc, _⟩
    · exact absurd rfl hc
    · obtain ⟨ap7, kp7, low7⟩ := HAP6.out.second hw7 HS6.out HD6.out.lt
      have HB7 := Lib.hid (HB6.out.trans (by rw [HBB.out] at low7; exact low7))
      obtain ⟨q, hq⟩ : ∃ q, q = (openW s).1 := ⟨_, rfl⟩
      rw [← hq]
      have hd : (q != q) = false := by simp
      clear r7 hw7 ap7 kp7 low7 hc hres2 hq
      go_wp2
      go_ret
      exact ⟨rfl, HB7.out⟩
    · exact absurd hc H0.out
  · obtain ⟨ap6, kp6, low6⟩ := HAP5.out.first hw6 HS5.out HR5.out.lt
    have HRES := Lib.hid hres
    have HR6 := Lib.hid (HR5.out.keep kp6)
    have HB6 := Lib.hid (HB5.out.trans (by rw [HBB.out] at low6; exact low6))
    have HS6 : Hid (B ≤ w6.heap.size) := Lib.hid (Nat.le_trans HS5.out hw6.size)
    have HAP6 := Lib.hid ap6
    have HD6 := Lib.hid d6
    have H0 := Lib.hid h0
    have HO6 := Lib.hid (rsopen_any HR6.out A2 c2 l (HRG.out w6 HB6.out) (by omega))
    clear hres d6 hw6 ap6 kp6 low6 h0
    go_wp2_with fail
    refine HO6.out.mono ?_
    rintro e w7 ⟨om, code2, hres2, hh⟩
    obtain ⟨rfl, rfl⟩ := res_agree HRES.out hres2
    rcases hh with ⟨hc, _⟩ | ⟨_, hc, _⟩ | ⟨_, hc, M, rfl, R7, r7, hw7⟩
    · exact absurd rfl hc
    · exact absurd H0.out hc
    · obtain ⟨ap7, kp7, low7⟩ := HAP6.out.second hw7 HS6.out (HD6.out.lt HK.out.fr)
      have HB7 := Lib.hid (HB6.out.trans (by rw [HBB.out] at low7; exact low7))
      have HAL := alike_any HK.out (HD6.out.keep HK.out.fr kp7) r7
      rw [alike_self] at HAL
      have HAL := Lib.hid HAL
      clear r7 hw7 ap7 kp7 low7 hc hres2
      go_wp2_with fail
      refine HAL.out.mono ?_
      rintro e w8 ⟨rfl, hB8⟩
      have HB8 := Lib.hid (HB7.out.trans (hB8.mono HB7.out.size))
      go_wp2
      go_ret
      exact ⟨rfl, HB8.out⟩
end Go.Proofs.YtalmjmhbpmhokaaGreat
