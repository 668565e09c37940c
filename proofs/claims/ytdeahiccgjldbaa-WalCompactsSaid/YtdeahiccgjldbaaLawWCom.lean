/- The law WalCompacts. -/
import Derived.Test.YtdeahiccgjldbaaWalW
namespace Go.Proofs.Ytdeahiccgjldbaa
open Go.RowKit

set_option maxRecDepth 100000 in
set_option maxHeartbeats 8000000 in
theorem law_compacts (room : Int) (A : Option Addr) (c : Nat) (L : List StV) (Ar : Option Addr) (cr : Nat) (Kr : List SlV) (w : World) (hL : St w w.heap.size A L) (hlen : L.length ≤ 9223372036854775807) (hdl : ∀ x ∈ L, x.data.length ≤ 9223372036854775807 ∧ x.rows.length ≤ 9223372036854775807) (hKr : Ls w w.heap.size Ar Kr) :
    Calls Try.prog 5 #[.int .i64 room, .slice A L.length c, .slice Ar Kr.length cr] w fun e w' => e = .returned (.bool true) ∧ Below w.heap.size w w' := by
  have HA := Lib.hid (awake_any w)
  have HL := Lib.hid hL
  have HLen := Lib.hid hlen
  have HDL := Lib.hid hdl
  have HKr := Lib.hid hKr
  clear hKr
  clear hL hdl
  go_enter Try.func5, Try.ntmps5
  go_wp2_with fail
  refine HA.out.mono ?_
  rintro e w1 ⟨rfl, hb1⟩
  have HB1 := Lib.hid hb1
  have HLong := Lib.hid (long_any (c := c) (HL.out.below hb1) HLen.out HDL.out)
  have HN := Lib.hid (new_any w1 room)
  clear hb1
  obtain ⟨lb, hlb⟩ : ∃ lb, lb = longW L := ⟨_, rfl⟩
  rw [← hlb] at HLong
  have HLb := Lib.hid hlb
  clear hlb
  go_wp2_with fail
  refine HLong.out.mono ?_
  rintro e w1' ⟨rfl, rfl⟩
  go_wp2_with fail
  refine HN.out.mono ?_
  rintro e w2 (⟨k, rfl, hk0, hk1, rfl, h2, hb2, hz2⟩ | ⟨h0, rfl, rfl⟩)
  · obtain ⟨D, hD⟩ : ∃ D, D = w1.heap.size := ⟨_, rfl⟩
    have hlow : w.heap.size ≤ D := by rw [hD]; exact HB1.out.size
    rw [← hD] at h2 hb2 ⊢
    have HLow := Lib.hid hlow
    have H2 := Lib.hid h2
    have HB2 := Lib.hid (HB1.out.trans (hb2.mono hlow))
    have HR := Lib.hid (rnew_any w2 k)
    have HK := Lib.hid (And.intro hk0 hk1)
    clear hD hlow h2 hb2 hz2 hk0 hk1
    cases lb
    · have HLF := Lib.hid (longW_false HLb.out.symm)
      have hl80 : L.length ≤ 80 := HLF.out.1
      by_cases hbig : 20 < Kr.length
      · go_wp2
        go_ret
        exact ⟨rfl, HB2.out⟩
      · have HBig := Lib.hid hbig
        go_wp2_with fail
        refine HR.out.mono ?_
        rintro e w3 (⟨k', hkk, _, _, rfl, h3, hb3, _⟩ | ⟨h0, _⟩)
        · obtain rfl : k = k' := by omega
          obtain ⟨R, hR⟩ : ∃ R, R = w2.heap.size := ⟨_, rfl⟩
          have hlowR : w.heap.size ≤ R := by rw [hR]; exact HB2.out.size
          rw [← hR] at h3 ⊢
          have HLowR := Lib.hid hlowR
          have HT := Lib.hid (two_new rfl H2.out h3 hR hb3)
          have HB3 := Lib.hid (HB2.out.trans (hb3.mono HB2.out.size))
          have hok0 := ok_new HK.out.1 HK.out.2
          obtain ⟨v3, u3, hd3, hr3, ne3, ap3⟩ := HT.out
          have HD3 := Lib.hid hd3
          have HR3 := Lib.hid hr3
          have HNe := Lib.hid ne3
          have HAp := Lib.hid ap3
          have HOk0 := Lib.hid hok0
          have HO := Lib.hid (open_any hd3 hok0)
          rw [(Whl.new k 0 (-1)).open_] at HO
          clear hkk hR hlowR h3 hb3 hd3 hr3 ne3 ap3 hok0
          go_wp2_with fail
          refine HO.out.mono ?_
          rintro e w4 ⟨hd4, (⟨_, L4, rfl, hL4⟩ | ⟨hx, _⟩)⟩
          · have HB4 := Lib.hid (HB3.out.trans (Did.low HD3.out HLow.out hd4))
            obtain ⟨v4, h4, r4, a4⟩ := other HD3.out HR3.out HNe.out HAp.out hd4
            have H4 := Lib.hid h4
            have R4 := Lib.hid r4
            have A4 := Lib.hid a4
            have L4' := Lib.hid hL4
            have HO4 := Lib.hid (ropen_any r4 HOk0.out)
            rw [(Whl.new k 0 (-1)).open_] at HO4
            clear hd4 h4 r4 a4 hL4
            go_wp2_with fail
            refine HO4.out.mono ?_
            rintro e w5 ⟨hd5, (⟨_, M5, rfl, hM5⟩ | ⟨hx, _⟩)⟩
            · have HB5 := Lib.hid (HB4.out.trans (Did.low R4.out HLowR.out hd5))
              obtain ⟨u5, r5, h5, a5⟩ := other R4.out H4.out (fun e => HNe.out e.symm) A4.out.symm hd5
              have HT5 : Hid (TwoL (R + 1) D R L4 M5 (runW k (L.take 0)) w5) := Lib.hid ⟨⟨v4, u5, h5, r5, HNe.out, a5.symm⟩, L4'.out.did R4.out (by decide) (by decide) hd5, hM5⟩
              clear hd5 r5 h5 a5 hM5
              go_wp2
              go_loopw [13, 15, 17] (fun x y i wr => ∃ j Lg Mg : Nat, j ≤ L.length ∧ x = ptr Lg ∧ y = ptr Mg ∧ i = .int .i64 j ∧ TwoL (R + 1) D R Lg Mg (runW k (L.take j)) wr ∧ Below w.heap.size w wr) (fun _ _ i _ => L.length - (intOf i).toNat)
              case atStart => exact ⟨0, L4, M5, Nat.zero_le _, rfl, rfl, rfl, HT5.out, HB5.out⟩
              case round =>
                obtain ⟨j, Lg, Mg, hj, rfl, rfl, rfl, hT, hbj⟩ := hrel
                have HTj := Lib.hid hT
                have HBj := Lib.hid hbj
                clear hT hbj
                by_cases hlt : j < L.length
                · obtain ⟨x, hx⟩ : ∃ x, L[j]? = some x := ⟨_, List.getElem?_eq_getElem hlt⟩
                  have HSt := Lib.hid (HL.out.below HBj.out)
                  obtain ⟨b, o, rfl, _, c0, c1, c2, c3⟩ := HSt.out.at_ j x hx
                  have hmem := List.mem_of_getElem? hx
                  have hnum : ∀ y ∈ L.take j, y.n ≤ 9223372036854775807 := fun y hy => HL.out.num y (List.mem_of_mem_take hy)
                  have hok := (runW_ok HK.out.1 HK.out.2 (L.take j) hnum).1
                  have HS := Lib.hid (step_any HTj.out hok HLow.out HLowR.out x (HSt.out.data x hmem) (HSt.out.rows x hmem) (HLF.out.2 x hmem))
                  have HSn := Lib.hid (show stepW (runW k (L.take j)) x = runW k (L.take (j + 1)) by rw [take_snoc_of _ _ _ hx, runW_snoc])
                  have Hlt := Lib.hid hlt
                  clear hmem hnum hok
                  go_wp2_with fail
                  refine HS.out.mono ?_
                  rintro e w6 ⟨L6, M6, rfl, hT6, hb6⟩
                  rw [HSn.out] at hT6
                  have HT6 := Lib.hid hT6
                  have HB6 := Lib.hid (HBj.out.trans hb6)
                  clear hT6 hb6 c0 c1 c2 c3 hx
                  go_wp2
                  go_roundw
                  case rel => exact ⟨j + 1, L6, M6, Hlt.out, rfl, rfl, by go_num, HT6.out, HB6.out⟩
                  case measure => have := Hlt.out; simp [intOf]; omega
                · obtain rfl : j = L.length := by omega
                  rw [List.take_length] at HTj
                  obtain ⟨hok, hwh⟩ := runW_ok HK.out.1 HK.out.2 L HL.out.num
                  obtain ⟨s, hs⟩ : ∃ s, s = runW k L := ⟨_, rfl⟩
                  rw [← hs] at HTj hok hwh
                  have HOk := Lib.hid hok
                  have HWh := Lib.hid hwh
                  obtain ⟨⟨v, u, hd, _, _, _⟩, hLg, _⟩ := HTj.out
                  have HD := Lib.hid hd
                  have HLg := Lib.hid hLg
                  have HRec := Lib.hid (records_any hd hok hLg)
                  clear hs hd hok hwh hLg
                  go_wp2_with fail
                  refine HRec.out.mono ?_
                  rintro e w6 ⟨A6, c6, K6, rfl, hK6, hrow6⟩
                  have HK6 := Lib.hid hK6
                  have HRow6 := Lib.hid hrow6
                  have HD6 := Lib.hid (HD.out.below hrow6.low)
                  have hLg6 := HLg.out.below hrow6.low
                  have HLg6 := Lib.hid hLg6
                  have HB6 := Lib.hid (HBj.out.trans (hrow6.low.mono HBj.out.size))
                  have hr6 : Ls w6 w6.heap.size Ar Kr := (HKr.out.below HB6.out).more HB6.out.size
                  have HCp := Lib.hid (compact_any (c := cr) HD6.out HOk.out hLg6 hr6 (by have := HBig.out; omega))
                  have HOk2 := Lib.hid (comp_ok HOk.out (datas Kr))
                  obtain ⟨q, hq⟩ : ∃ q, q = (compW s (datas Kr)).1 := ⟨_, rfl⟩
                  have HQ := Lib.hid hq
                  clear hK6 hrow6 hLg6 hr6 hq
                  go_wp2_with fail
                  refine HCp.out.mono ?_
                  rintro e w7 ⟨rfl, hd7⟩
                  have HB7 := Lib.hid (HB6.out.trans (Did.low HD6.out HLow.out hd7))
                  have hL7 := HLg6.out.did HD6.out (by decide) (by decide) hd7
                  have HK67 : Hid (Ls w7 w7.heap.size A6 K6) := Lib.hid (by
                    obtain ⟨_, _, hk, _⟩ := hd7
                    exact HRow6.out.outlasts HD.out hk)
                  obtain ⟨v7, h7, _, _⟩ := hd7
                  have HD7 := Lib.hid h7
                  have HRec7 := Lib.hid (records_any h7 HOk2.out hL7)
                  have HCr := Lib.hid (crash_any h7 HOk2.out 0)
                  rw [← HQ.out]
                  clear h7 hL7
                  by_cases h0 : q = 0
                  · subst h0
                    have hm := compW_more HQ.out.symm
                    obtain ⟨s2, hs2⟩ : ∃ s2, s2 = (compW s (datas Kr)).2 := ⟨_, rfl⟩
                    rw [← hs2] at hm HOk2 HCr HD7
                    have HM := Lib.hid hm
                    have HAg := Lib.hid (again_opens HOk2.out 0)
                    have HAl := Lib.hid (again_last hm.2.1 hm.2.2 0)
                    have HOkC := Lib.hid (crash_ok HOk2.out 0)
                    have HOkA := Lib.hid (again_ok HOk2.out 0)
                    clear hm hs2
                    go_wp2_with fail
                    refine HCr.out.mono ?_
                    rintro e w8 ⟨rfl, hd8⟩
                    have HB8 := Lib.hid (HB7.out.trans (Did.low HD7.out HLow.out hd8))
                    obtain ⟨v8, h8, _, _⟩ := hd8
                    have HD8 := Lib.hid h8
                    have HOp := Lib.hid (open_any h8 HOkC.out)
                    clear h8
                    go_wp2_with fail
                    refine HOp.out.mono ?_
                    rintro e w9 ⟨hd9, (⟨_, L9, rfl, hL9⟩ | ⟨hx, _⟩)⟩
                    · have HB9 := Lib.hid (HB8.out.trans (Did.low HD8.out HLow.out hd9))
                      obtain ⟨v9, h9, _, _⟩ := hd9
                      have HD9 : Hid (DAt DT (R + 1) w9 D (againW s2 0).2 v9) := Lib.hid h9
                      have HL9 := Lib.hid hL9
                      have HRec9 := Lib.hid (records_any HD9.out HOkA.out hL9)
                      rw [HAl.out.2.2, HM.out.1] at HRec9
                      clear h9 hL9
                      go_wp2_with fail
                      refine HRec9.out.mono ?_
                      rintro e w10 ⟨A10, c10, K10, rfl, hK10, hrow10⟩
                      have HB10 := Lib.hid (HB9.out.trans (hrow10.low.mono HB9.out.size))
                      have HD10 := Lib.hid (HD9.out.below hrow10.low)
                      have HL10 := Lib.hid (HL9.out.below hrow10.low)
                      have hlen : K10.length = Kr.length := by have := congrArg List.length hK10; rw [datas_length, datas_length] at this; exact this
                      have HSame := Lib.hid (same_any _ _ A10 Ar c10 cr K10 Kr w10 hrow10.ls.1 (HKr.out.below HB10.out) (by have := HBig.out; omega))
                      rw [decide_eq_true hK10] at HSame
                      clear hlen hK10 hrow10
                      go_wp2_with fail
                      refine HSame.out.mono ?_
                      rintro e w11 ⟨rfl, n, rfl⟩
                      have HLn := Lib.hid (len_any (HD10.out.below (below_drewN w10 n)) HOkA.out (HL10.out.below (below_drewN w10 n)))
                      rw [HAl.out.2.2, HM.out.1, datas_length] at HLn
                      have HB11 := Lib.hid (HB10.out.trans ((below_drewN w10 n).mono HB10.out.size))
                      go_wp2_with fail
                      refine HLn.out.mono ?_
                      rintro e w12 ⟨rfl, hb12⟩
                      have HB12 := Lib.hid (HB11.out.trans (hb12.mono HB11.out.size))
                      clear hb12
                      go_wp2
                      go_ret
                      exact ⟨rfl, HB12.out⟩
                    · exact absurd HAg.out.1 hx
                  · have hs := compW_same (l := datas Kr) (by rw [← HQ.out]; exact h0)
                    have d0 : (q == 0) = false := by simpa using h0
                    have HS := Lib.hid hs
                    clear hs
                    go_wp2_with fail
                    refine HRec7.out.mono ?_
                    rintro e w8 ⟨A8, c8, K8, rfl, hK8, hrow8⟩
                    have HB8 := Lib.hid (HB7.out.trans (hrow8.low.mono HB7.out.size))
                    have hdat : datas K8 = datas K6 := by rw [hK8, HS.out, HK6.out]
                    have hn8 : K8.length ≤ 1048576 := by
                      have h1 := congrArg List.length hdat
                      rw [datas_length, datas_length] at h1
                      have h3 := congrArg List.length HK6.out
                      rw [datas_length] at h3
                      have h2 := scan_len s.bs
                      have := HOk.out.len
                      have := HOk.out.r1
                      omega
                    have HSame := Lib.hid (same_any _ _ A8 A6 c8 c6 K8 K6 w8 hrow8.ls.1 (HK67.out.later hrow8.low) hn8)
                    rw [decide_eq_true hdat] at HSame
                    clear hdat hn8 hK8 hrow8
                    go_wp2_with fail
                    refine HSame.out.mono ?_
                    rintro e w9 ⟨rfl, n, rfl⟩
                    go_wp2
                    go_ret
                    exact ⟨rfl, HB8.out.trans ((below_drewN w8 _).mono HB8.out.size)⟩
            · exact absurd rfl hx
          · exact absurd rfl hx
        · exact absurd ⟨by have := HK.out; omega, by have := HK.out; omega⟩ h0
    · go_wp2
      go_ret
      exact ⟨rfl, HB2.out⟩
  · go_wp2
    go_ret
    exact ⟨rfl, HB1.out⟩

end Go.Proofs.Ytdeahiccgjldbaa
