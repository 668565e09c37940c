/- The law WalRefuses. -/
import Derived.Test.YtdeahiccgjldbaaWalW
import Derived.Lib.QuietBelow
import Derived.BigQuiet
import Derived.Deep.QuietTactic
namespace Go.Proofs.Ytdeahiccgjldbaa
open Go.RowKit

set_option maxRecDepth 100000 in
set_option maxHeartbeats 8000000 in
theorem law_refuses (room : Int) (A : Option Addr) (c : Nat) (L : List StV) (Ab : Option Addr) (cb : Nat) (bb : List UInt8) (w : World) (hL : St w w.heap.size A L) (hlen : L.length ≤ 9223372036854775807) (hdl : ∀ x ∈ L, x.data.length ≤ 9223372036854775807 ∧ x.rows.length ≤ 9223372036854775807) (hbb : By w w.heap.size Ab bb) :
    Calls Try.prog 6 #[.int .i64 room, .slice A L.length c, .slice Ab bb.length cb] w fun e w' => e = .returned (.bool true) ∧ Below w.heap.size w w' := by
  have HA := Lib.hid (awake_any w)
  have HL := Lib.hid hL
  have HLen := Lib.hid hlen
  have HDL := Lib.hid hdl
  have HBb := Lib.hid hbb
  clear hbb
  clear hL hdl
  go_enter Try.func6, Try.ntmps6
  go_wp2_with fail
  refine HA.out.mono ?_
  rintro e w1 ⟨rfl, hb1⟩
  have HB1 := Lib.hid hb1
  have HLong := Lib.hid (long_any (c := c) (HL.out.below hb1) HLen.out HDL.out)
  have HN := Lib.hid (new_any w1 room)
  clear hb1
  obtain ⟨lb, hlb⟩ : ∃ lb, lb = longW L := ⟨_, rfl⟩
  rw [← hlb] at HLong
  have HLb := Lib.hid hlb
  clear hlb
  go_wp2_with fail
  refine HLong.out.mono ?_
  rintro e w1' ⟨rfl, rfl⟩
  go_wp2_with fail
  refine HN.out.mono ?_
  rintro e w2 (⟨k, rfl, hk0, hk1, rfl, h2, hb2, hz2⟩ | ⟨h0, rfl, rfl⟩)
  · obtain ⟨D, hD⟩ : ∃ D, D = w1.heap.size := ⟨_, rfl⟩
    have hlow : w.heap.size ≤ D := by rw [hD]; exact HB1.out.size
    rw [← hD] at h2 hb2 ⊢
    have HLow := Lib.hid hlow
    have H2 := Lib.hid h2
    have HB2 := Lib.hid (HB1.out.trans (hb2.mono hlow))
    have HR := Lib.hid (rnew_any w2 k)
    have HK := Lib.hid (And.intro hk0 hk1)
    clear hD hlow h2 hb2 hz2 hk0 hk1
    cases lb
    · have HLF := Lib.hid (longW_false HLb.out.symm)
      have hl80 : L.length ≤ 80 := HLF.out.1
      by_cases hbig : 1100 < bb.length
      · go_wp2
        go_ret
        exact ⟨rfl, HB2.out⟩
      · have HBig := Lib.hid hbig
        go_wp2_with fail
        refine HR.out.mono ?_
        rintro e w3 (⟨k', hkk, _, _, rfl, h3, hb3, _⟩ | ⟨h0, _⟩)
        · obtain rfl : k = k' := by omega
          obtain ⟨R, hR⟩ : ∃ R, R = w2.heap.size := ⟨_, rfl⟩
          have hlowR : w.heap.size ≤ R := by rw [hR]; exact HB2.out.size
          rw [← hR] at h3 ⊢
          have HLowR := Lib.hid hlowR
          have HT := Lib.hid (two_new rfl H2.out h3 hR hb3)
          have HB3 := Lib.hid (HB2.out.trans (hb3.mono HB2.out.size))
          have hok0 := ok_new HK.out.1 HK.out.2
          obtain ⟨v3, u3, hd3, hr3, ne3, ap3⟩ := HT.out
          have HD3 := Lib.hid hd3
          have HR3 := Lib.hid hr3
          have HNe := Lib.hid ne3
          have HAp := Lib.hid ap3
          have HOk0 := Lib.hid hok0
          have HO := Lib.hid (open_any hd3 hok0)
          rw [(Whl.new k 0 (-1)).open_] at HO
          clear hkk hR hlowR h3 hb3 hd3 hr3 ne3 ap3 hok0
          go_wp2_with fail
          refine HO.out.mono ?_
          rintro e w4 ⟨hd4, (⟨_, L4, rfl, hL4⟩ | ⟨hx, _⟩)⟩
          · have HB4 := Lib.hid (HB3.out.trans (Did.low HD3.out HLow.out hd4))
            obtain ⟨v4, h4, r4, a4⟩ := other HD3.out HR3.out HNe.out HAp.out hd4
            have H4 := Lib.hid h4
            have R4 := Lib.hid r4
            have A4 := Lib.hid a4
            have L4' := Lib.hid hL4
            have HO4 := Lib.hid (ropen_any r4 HOk0.out)
            rw [(Whl.new k 0 (-1)).open_] at HO4
            clear hd4 h4 r4 a4 hL4
            go_wp2_with fail
            refine HO4.out.mono ?_
            rintro e w5 ⟨hd5, (⟨_, M5, rfl, hM5⟩ | ⟨hx, _⟩)⟩
            · have HB5 := Lib.hid (HB4.out.trans (Did.low R4.out HLowR.out hd5))
              obtain ⟨u5, r5, h5, a5⟩ := other R4.out H4.out (fun e => HNe.out e.symm) A4.out.symm hd5
              have HT5 : Hid (TwoL (R + 1) D R L4 M5 (runW k (L.take 0)) w5) := Lib.hid ⟨⟨v4, u5, h5, r5, HNe.out, a5.symm⟩, L4'.out.did R4.out (by decide) (by decide) hd5, hM5⟩
              clear hd5 r5 h5 a5 hM5
              go_wp2
              go_loopw [13, 15, 17] (fun x y i wr => ∃ j Lg Mg : Nat, j ≤ L.length ∧ x = ptr Lg ∧ y = ptr Mg ∧ i = .int .i64 j ∧ TwoL (R + 1) D R Lg Mg (runW k (L.take j)) wr ∧ Below w.heap.size w wr) (fun _ _ i _ => L.length - (intOf i).toNat)
              case atStart => exact ⟨0, L4, M5, Nat.zero_le _, rfl, rfl, rfl, HT5.out, HB5.out⟩
              case round =>
                obtain ⟨j, Lg, Mg, hj, rfl, rfl, rfl, hT, hbj⟩ := hrel
                have HTj := Lib.hid hT
                have HBj := Lib.hid hbj
                clear hT hbj
                by_cases hlt : j < L.length
                · obtain ⟨x, hx⟩ : ∃ x, L[j]? = some x := ⟨_, List.getElem?_eq_getElem hlt⟩
                  have HSt := Lib.hid (HL.out.below HBj.out)
                  obtain ⟨b, o, rfl, _, c0, c1, c2, c3⟩ := HSt.out.at_ j x hx
                  have hmem := List.mem_of_getElem? hx
                  have hnum : ∀ y ∈ L.take j, y.n ≤ 9223372036854775807 := fun y hy => HL.out.num y (List.mem_of_mem_take hy)
                  have hok := (runW_ok HK.out.1 HK.out.2 (L.take j) hnum).1
                  have HS := Lib.hid (step_any HTj.out hok HLow.out HLowR.out x (HSt.out.data x hmem) (HSt.out.rows x hmem) (HLF.out.2 x hmem))
                  have HSn := Lib.hid (show stepW (runW k (L.take j)) x = runW k (L.take (j + 1)) by rw [take_snoc_of _ _ _ hx, runW_snoc])
                  have Hlt := Lib.hid hlt
                  clear hmem hnum hok
                  go_wp2_with fail
                  refine HS.out.mono ?_
                  rintro e w6 ⟨L6, M6, rfl, hT6, hb6⟩
                  rw [HSn.out] at hT6
                  have HT6 := Lib.hid hT6
                  have HB6 := Lib.hid (HBj.out.trans hb6)
                  clear hT6 hb6 c0 c1 c2 c3 hx
                  go_wp2
                  go_roundw
                  case rel => exact ⟨j + 1, L6, M6, Hlt.out, rfl, rfl, by go_num, HT6.out, HB6.out⟩
                  case measure => have := Hlt.out; simp [intOf]; omega
                · obtain rfl : j = L.length := by omega
                  rw [List.take_length] at HTj
                  obtain ⟨hok, hwh⟩ := runW_ok HK.out.1 HK.out.2 L HL.out.num
                  obtain ⟨s, hs⟩ : ∃ s, s = runW k L := ⟨_, rfl⟩
                  rw [← hs] at HTj hok hwh
                  have HOk := Lib.hid hok
                  have HWh := Lib.hid hwh
                  obtain ⟨⟨v, u, hd, _, _, _⟩, hLg, _⟩ := HTj.out
                  have HD := Lib.hid hd
                  have HLg := Lib.hid hLg
                  have HRec := Lib.hid (records_any hd hok hLg)
                  clear hs hd hok hwh hLg
                  go_wp2_with fail
                  refine HRec.out.mono ?_
                  rintro e w6 ⟨A6, c6, K6, rfl, hK6, hrow6⟩
                  have HK6 := Lib.hid hK6
                  have HRow6 := Lib.hid hrow6
                  have HD6 := Lib.hid (HD.out.below hrow6.low)
                  have hLg6 := HLg.out.below hrow6.low
                  have HLg6 := Lib.hid hLg6
                  have HB6 := Lib.hid (HBj.out.trans (hrow6.low.mono HBj.out.size))
                  have hby6 : By w6 w6.heap.size Ab bb := (HBb.out.below HB6.out).more HB6.out.size
                  have HBy6 := Lib.hid hby6
                  have HAp := Lib.hid (lappend_any (c := cb) HD6.out HOk.out hLg6 hby6)
                  have HOk2 := Lib.hid (appW_ok HOk.out bb)
                  obtain ⟨q, hq⟩ : ∃ q, q = (appW s bb).1 := ⟨_, rfl⟩
                  have HQ := Lib.hid hq
                  clear hK6 hrow6 hLg6 hby6 hq
                  go_wp2_with fail
                  refine HAp.out.mono ?_
                  rintro e w7 ⟨rfl, hd7⟩
                  have HB7 := Lib.hid (HB6.out.trans (Did.low HD6.out HLow.out hd7))
                  have hL7 := HLg6.out.did HD6.out (by decide) (by decide) hd7
                  have HK67 : Hid (Ls w7 w7.heap.size A6 K6) := Lib.hid (by
                    obtain ⟨_, _, hk, _⟩ := hd7
                    exact HRow6.out.outlasts HD.out hk)
                  obtain ⟨v7, h7, _, _⟩ := hd7
                  have HRec7 := Lib.hid (records_any h7 HOk2.out hL7)
                  rw [← HQ.out]
                  clear h7 hL7
                  go_wp2_with fail
                  refine HRec7.out.mono ?_
                  rintro e w8 ⟨A8, c8, K8, rfl, hK8, hrow8⟩
                  have HB8 := Lib.hid (HB7.out.trans (hrow8.low.mono HB7.out.size))
                  have HL6 := Lib.hid (HK67.out.later hrow8.low)
                  have HL8 := Lib.hid hrow8.ls.1
                  have HC8 := Lib.hid hrow8.ls.2
                  have HBy8 : Hid (By w8 w8.heap.size Ab bb) := Lib.hid ((HBb.out.below HB8.out).more HB8.out.size)
                  have hn6 : K6.length ≤ 1048576 := by
                    have h1 := congrArg List.length HK6.out
                    rw [datas_length] at h1
                    have h2 := scan_len s.bs
                    have := HOk.out.len
                    have := HOk.out.r1
                    omega
                  have HN6 := Lib.hid hn6
                  have HK8 := Lib.hid hK8
                  clear hrow8 hK8 hn6
                  by_cases h0 : q = 0
                  · subst h0
                    have hm := appW_more HWh.out HQ.out.symm
                    have hdat : datas K8 = datas K6 ++ [bb] := by rw [HK8.out, hm.1, HK6.out]
                    have hl8 : K8.length = K6.length + 1 := by have := congrArg List.length hdat; rw [List.length_append, datas_length, datas_length] at this; exact this
                    have hcut := fun W => run_headS A8 (K6.length + 1) c8 (K6.length : Int) (by omega) (by have := HC8.out; omega) W
                    rw [Int.toNat_natCast] at hcut
                    obtain ⟨z, hz⟩ : ∃ z, K8[K6.length]? = some z := ⟨_, List.getElem?_eq_getElem (by omega)⟩
                    obtain ⟨bz, oz, rfl, _, cz⟩ := HL8.out.at_ K6.length z hz
                    have hzd : z.data = bb := by
                      have h1 := datas_at hz
                      rw [hdat, List.getElem?_append_right (by rw [datas_length]; exact Nat.le_refl _), datas_length, Nat.sub_self] at h1
                      exact (Option.some.inj h1).symm
                    have hbz := HL8.out.data z (List.mem_of_getElem? hz)
                    have s1 : ∀ n, (convert 40 9 (.slice z.ad z.data.length z.cap)).run Try.prog (w8.drewN n) = .ok (.string ⟨bb.toArray⟩) (w8.drewN n) := fun n => by
                      have := str_run (w := w8.drewN n) z.cap (hbz.drewN n)
                      rw [hzd] at this ⊢
                      exact this
                    have s2 : ∀ n, (convert 40 9 (.slice Ab bb.length cb)).run Try.prog (w8.drewN n) = .ok (.string ⟨bb.toArray⟩) (w8.drewN n) := fun n => str_run cb (HBy8.out.drewN n)
                    have HSame : Hid (∀ n, Calls Try.prog 16 #[.slice (some ⟨bz, oz, none⟩) K6.length c8, .slice A6 K6.length c6] (w8.drewN n) fun e w' => e = .returned (.bool true) ∧ ∃ m, w' = (w8.drewN n).drewN m) := Lib.hid fun n => by
                      have hl : (K8.take K6.length).length = K6.length := by rw [List.length_take]; omega
                      have h := same_any w8.heap.size w8.heap.size (some ⟨bz, oz, none⟩) A6 c8 c6 (K8.take K6.length) K6 (w8.drewN n) ((HL8.out.take K6.length).drewN n) (HL6.out.drewN n) (by rw [hl]; exact HN6.out)
                      have he : datas (K8.take K6.length) = datas K6 := by rw [datas_take, hdat, List.take_left' (datas_length K6)]
                      rw [hl, he, decide_eq_true rfl] at h
                      exact h
                    have i1 : (0 : Int) ≤ (K6.length : Int) := by omega
                    have i2 : (K6.length : Int) < (K6.length : Int) + 1 := by omega
                    rw [hl8]
                    clear hm hl8 hz hbz hdat hzd
                    have hbb : (bb == bb) = true := by simp
                    have hn6 := HN6.out
                    go_wp2
                    go_quiet ((go_at_call 16; exact Calls.quiet_of (HSame.out _)))
                    go_wp2
                    go_ret
                    exact ⟨rfl, HB8.out.trans ((below_drewN w8 _).mono HB8.out.size)⟩
                  · have hs := appW_same (b := bb) (by rw [← HQ.out]; exact h0)
                    have hdat : datas K6 = datas K8 := by rw [HK8.out, hs, HK6.out]
                    have HSame := Lib.hid (same_any _ _ A6 A8 c6 c8 K6 K8 w8 HL6.out HL8.out HN6.out)
                    rw [decide_eq_true hdat] at HSame
                    have d0 : (q == 0) = false := by simpa using h0
                    clear hs hdat
                    go_wp2_with fail
                    refine HSame.out.mono ?_
                    rintro e w9 ⟨rfl, n, rfl⟩
                    go_wp2
                    go_ret
                    exact ⟨rfl, HB8.out.trans ((below_drewN w8 _).mono HB8.out.size)⟩
            · exact absurd rfl hx
          · exact absurd rfl hx
        · exact absurd ⟨by have := HK.out; omega, by have := HK.out; omega⟩ h0
    · go_wp2
      go_ret
      exact ⟨rfl, HB2.out⟩
  · go_wp2
    go_ret
    exact ⟨rfl, HB1.out⟩

end Go.Proofs.Ytdeahiccgjldbaa
