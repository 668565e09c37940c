/- The law DiskRoom. -/
import Derived.Test.YtofaapcfileojaaDskX
import Derived.Deep.RegionHeld3
namespace Go.Proofs.Ytofaapcfileojaa
open Go.RowKit

set_option maxRecDepth 100000 in
set_option maxHeartbeats 8000000 in
theorem law_room (room : Int) (A : Option Addr) (c : Nat) (L : List StV) (w : World) (hL : St w w.heap.size A L) (hlen : L.length ≤ 9223372036854775807) (hdl : ∀ x ∈ L, x.data.length ≤ 9223372036854775807) :
    Calls Try.prog 5 #[.int .i64 room, .slice A L.length c] w fun e w' => e = .returned (.bool true) ∧ Below w.heap.size w w' := by
  have HA := Lib.hid (awake_any w)
  have HL := Lib.hid hL
  have HLen := Lib.hid hlen
  have HDL := Lib.hid hdl
  clear hL hdl
  go_enter Try.func5, Try.ntmps5
  go_wp2_with fail
  refine HA.out.mono ?_
  rintro e w1 ⟨rfl, hb1⟩
  have HB1 := Lib.hid hb1
  have HLong := Lib.hid (long_any (c := c) (HL.out.below hb1) HLen.out HDL.out)
  have HN := Lib.hid (new_any w1 room)
  clear hb1
  obtain ⟨lb, hlb⟩ : ∃ lb, lb = longB L := ⟨_, rfl⟩
  rw [← hlb] at HLong
  have HLb := Lib.hid hlb
  clear hlb
  go_wp2_with fail
  refine HLong.out.mono ?_
  rintro e w1' ⟨rfl, rfl⟩
  go_wp2_with fail
  refine HN.out.mono ?_
  rintro e w2 (⟨k, rfl, hk0, hk1, rfl, h2, hb2, hz2⟩ | ⟨h0, rfl, rfl⟩)
  · obtain ⟨D, hD⟩ : ∃ D, D = w1.heap.size := ⟨_, rfl⟩
    have hlow : w.heap.size ≤ D := by rw [hD]; exact HB1.out.size
    rw [← hD] at h2 hb2 ⊢
    have HLow := Lib.hid hlow
    have H2 := Lib.hid h2
    have HB2 := Lib.hid (HB1.out.trans (hb2.mono hlow))
    have HR := Lib.hid (rnew_any w2 k)
    have HK := Lib.hid (And.intro hk0 hk1)
    clear hD hlow h2 hb2 hz2 hk0 hk1
    cases lb
    · have HLF := Lib.hid (long_false HLb.out.symm)
      have hl120 : L.length ≤ 120 := HLF.out.1
      go_wp2_with fail
      refine HR.out.mono ?_
      rintro e w3 (⟨k', hkk, _, _, rfl, h3, hb3, _⟩ | ⟨h0, _⟩)
      · obtain rfl : k = k' := by omega
        obtain ⟨R, hR⟩ : ∃ R, R = w2.heap.size := ⟨_, rfl⟩
        have hlowR : w.heap.size ≤ R := by rw [hR]; exact HB2.out.size
        rw [← hR] at h3 ⊢
        have HLowR := Lib.hid hlowR
        have HT := Lib.hid (two_new rfl H2.out h3 hR hb3)
        have HB3 := Lib.hid (HB2.out.trans (hb3.mono HB2.out.size))
        clear hkk hR hlowR h3 hb3
        go_wp2
        go_loopw [11, 12, 13, 14] (fun i _ _ _ wr => ∃ j : Nat, j ≤ L.length ∧ i = .int .i64 j ∧ Two (R + 1) D R (runD k (L.take j)) wr ∧ Below w.heap.size w wr) (fun i _ _ _ _ => L.length - (intOf i).toNat)
        case atStart => exact ⟨0, Nat.zero_le _, rfl, HT.out, HB3.out⟩
        case round =>
          obtain ⟨j, hj, rfl, hT, hbj⟩ := hrel
          have HTj := Lib.hid hT
          have HBj := Lib.hid hbj
          clear hT hbj
          by_cases hlt : j < L.length
          · obtain ⟨x, hx⟩ : ∃ x, L[j]? = some x := ⟨_, List.getElem?_eq_getElem hlt⟩
            have hmem := List.mem_of_getElem? hx
            obtain ⟨b, o, rfl, hbl, g0, g1, g2⟩ := HL.out.at_ j x hx
            have HC0 := Lib.hid g0
            have HC1 := Lib.hid g1
            have HC2 := Lib.hid g2
            have HBl := Lib.hid hbl
            have HXB := Lib.hid (HL.out.data x hmem)
            have HXL := Lib.hid (HLF.out.2 x hmem)
            have HXN := Lib.hid (HL.out.num x hmem)
            have hnum : ∀ y ∈ L.take j, y.n ≤ 9223372036854775807 := fun y hy => HL.out.num y (List.mem_of_mem_take hy)
            have HOk := Lib.hid (runD_ok HK.out.1 HK.out.2 (L.take j) hnum)
            have HOk2 := Lib.hid (runD_ok HK.out.1 HK.out.2 (L.take (j + 1)) (fun y hy => HL.out.num y (List.mem_of_mem_take hy)))
            have HX := Lib.hid hx
            have HMem := Lib.hid hmem
            have Hlt := Lib.hid hlt
            obtain ⟨s, hs⟩ : ∃ s, s = runD k (L.take j) := ⟨_, rfl⟩
            have hs2 : runD k (L.take (j + 1)) = stepD s x := by rw [take_snoc_of _ _ _ hx, runD_snoc, ← hs]
            rw [← hs] at HTj HOk
            rw [hs2] at HOk2
            have HS := Lib.hid hs
            have HS2 := Lib.hid hs2
            obtain ⟨v, u, hd, hr, hne, hap⟩ := HTj.out
            have HRd := Lib.hid (read_any hd HOk.out)
            have HD := Lib.hid hd
            have HRr := Lib.hid hr
            have HNe := Lib.hid hne
            have HAp := Lib.hid hap
            clear hx hmem hnum hs hs2 g0 g1 g2 hbl hd hr hne hap
            go_wp2_with fail
            refine HRd.out.mono ?_
            intro e w4 hg4
            obtain ⟨A4, c4, rfl, hby4, hb4, hs4⟩ := give_str hg4
            have hcv := hs4 w4 (Below.refl _ _)
            have HB4 := Lib.hid hb4
            have HLa := Lib.hid (lasts_any (HD.out.below hb4))
            clear hg4 hby4 hb4 hs4
            go_wp2_with fail
            refine HLa.out.mono ?_
            rintro e w5 ⟨rfl, rfl⟩
            clear hcv
            have HD4 := Lib.hid (HD.out.below HB4.out)
            have HR4 := Lib.hid (HRr.out.below HB4.out)
            have HW4 : Hid (Below w.heap.size w w4) := Lib.hid (HBj.out.trans (HB4.out.mono HBj.out.size))
            have c0 := (HW4.out.cell (p := ⟨b, o + j * 3, none⟩) HBl.out).trans HC0.out
            have c1 := (HW4.out.cell (p := ⟨b, o + j * 3 + 1, none⟩) HBl.out).trans HC1.out
            have c2 := (HW4.out.cell (p := ⟨b, o + j * 3 + 2, none⟩) HBl.out).trans HC2.out
            obtain ⟨q, hq⟩ : ∃ q, q = x.do_ := ⟨_, rfl⟩
            rw [← hq] at c0
            rcases (show q = 0 ∨ q = 1 ∨ q = 2 ∨ (q ≠ 0 ∧ q ≠ 1 ∧ q ≠ 2) by omega) with rfl | rfl | rfl | hne
            · have hE : stepD s x = (appD s x.data).2 := by unfold stepD; rw [if_pos hq.symm]
              have HC := Lib.hid (append_any (c := x.cap) HD4.out HOk.out (ByO.of (HXB.out.below HW4.out) (Oth.low HD4.out HLow.out)))
              obtain ⟨n, hn⟩ : ∃ n, n = (appD s x.data).1 := ⟨_, rfl⟩
              have hcs := app_cases s x.data
              obtain ⟨s', hs'⟩ : ∃ s', s' = (appD s x.data).2 := ⟨_, rfl⟩
              unfold Ans at HC
              rw [← hn, ← hs'] at HC
              rw [← hn, ← hs'] at hcs
              have HN := Lib.hid hn
              have HS' := Lib.hid hs'
              have HE : Hid (stepD s x = s') := Lib.hid (hE.trans hs'.symm)
              have HCS := Lib.hid hcs
              clear hE hn hs' hcs hq
              rw [HE.out] at HOk2
              have hroom : s'.bs.length ≤ k := by
                have h1 := HOk2.out.len
                have h2 : s'.room = k := by rw [← HE.out, step_room, HS.out, runD_room]
                omega
              go_wp2_with fail
              refine HC.out.mono ?_
              rintro e w5 ⟨rfl, hd5⟩
              have HW5 : Hid (Below w.heap.size w w5) := Lib.hid (HW4.out.trans ((Did.low HD4.out (Nat.le_refl _) hd5).mono HLow.out))
              obtain ⟨v5, h5, r5, a5⟩ := other HD4.out HR4.out HNe.out HAp.out hd5
              have k2 := (HW5.out.cell (p := ⟨b, o + j * 3 + 2, none⟩) HBl.out).trans HC2.out
              have H5 := Lib.hid h5
              have R5 := Lib.hid r5
              have A5 := Lib.hid a5
              have HC' := Lib.hid (rappend_any (c := x.cap) R5.out HOk.out (ByO.of (HXB.out.below HW5.out) (Oth.low R5.out HLowR.out)) (by have := HXL.out; omega))
              clear hd5 h5 r5 a5 c0 c1 c2
              go_wp2_with fail
              refine HC'.out.mono ?_
              rintro e w6 ⟨rfl, hd6⟩
              clear k2
              have HW6 : Hid (Below w.heap.size w w6) := Lib.hid (HW5.out.trans ((Did.low R5.out (Nat.le_refl _) hd6).mono HLowR.out))
              rw [← HS'.out] at hd6
              obtain ⟨u6, r6, h6, a6⟩ := other R5.out H5.out (fun e => HNe.out e.symm) A5.out.symm hd6
              have HT6 := Lib.hid (show Two (R + 1) D R s' w6 from ⟨v5, u6, h6, r6, HNe.out, a6.symm⟩)
              clear hd6 r6 a6
              rcases HCS.out with rfl | ⟨hn0, hbs, hls⟩
              · have HR8 := Lib.hid (read_any h6 HOk2.out)
                clear h6
                go_wp2_with fail
                refine HR8.out.mono ?_
                intro e w8 hg8
                obtain ⟨A8, c8, rfl, _, hb8, _⟩ := give_str hg8
                have HT8 := Lib.hid (HT6.out.below hb8)
                have HW8 : Hid (Below w.heap.size w w8) := Lib.hid (HW6.out.trans (hb8.mono HW6.out.size))
                clear hg8 hb8
                go_wp2
                go_roundw
                case rel => exact ⟨j + 1, Hlt.out, by go_num, by rw [HS2.out, HE.out]; exact HT8.out, HW8.out⟩
                case measure => have := Hlt.out; simp [intOf]; omega
              · have d0 : (n == 0) = false := by simpa using hn0
                have hself : (s.bs == s.bs) = true := by simp
                have hself2 : ((s.last : Int) == (s.last : Int)) = true := by simp
                have HR7 := Lib.hid (read_any h6 HOk2.out)
                have HBS := Lib.hid hbs
                have HLS := Lib.hid hls
                clear hbs hls
                have H6 := Lib.hid h6
                clear h6
                go_wp2_with fail
                refine HR7.out.mono ?_
                intro e w7 hg7
                obtain ⟨A7, c7, rfl, _, hb7, hs7⟩ := give_str hg7
                have hcv7 := hs7 w7 (Below.refl _ _)
                have hbs2 := congrArg List.toArray HBS.out
                rw [hbs2] at hcv7
                clear hbs2
                have HB7 := Lib.hid hb7
                have HL7 := Lib.hid (lasts_any (H6.out.below hb7))
                rw [HLS.out] at HL7
                have HT7 := Lib.hid (HT6.out.below hb7)
                have hD7 := H6.out.below hb7
                have HR8 := Lib.hid (read_any hD7 HOk2.out)
                have HW7 : Hid (Below w.heap.size w w7) := Lib.hid (HW6.out.trans (hb7.mono HW6.out.size))
                clear hg7 hb7 hs7 hD7
                go_wp2_with fail
                refine HL7.out.mono ?_
                rintro e w7' ⟨rfl, rfl⟩
                clear hcv7
                go_wp2_with fail
                refine HR8.out.mono ?_
                intro e w8 hg8
                obtain ⟨A8, c8, rfl, _, hb8, _⟩ := give_str hg8
                have HT8 := Lib.hid (HT7.out.below hb8)
                have HW8 : Hid (Below w.heap.size w w8) := Lib.hid (HW7.out.trans (hb8.mono HW7.out.size))
                clear hg8 hb8
                go_wp2
                go_roundw
                case rel => exact ⟨j + 1, Hlt.out, by go_num, by rw [HS2.out, HE.out]; exact HT8.out, HW8.out⟩
                case measure => have := Hlt.out; simp [intOf]; omega
            · have hE : stepD s x = (syncD s).2 := by unfold stepD; rw [if_neg (by omega), if_pos hq.symm]
              have HC := Lib.hid (sync_any HD4.out HOk.out)
              obtain ⟨n, hn⟩ : ∃ n, n = (syncD s).1 := ⟨_, rfl⟩
              have hcs := sync_cases s
              obtain ⟨s', hs'⟩ : ∃ s', s' = (syncD s).2 := ⟨_, rfl⟩
              unfold Ans at HC
              rw [← hn, ← hs'] at HC
              rw [← hn, ← hs'] at hcs
              have HN := Lib.hid hn
              have HS' := Lib.hid hs'
              have HE : Hid (stepD s x = s') := Lib.hid (hE.trans hs'.symm)
              have HCS := Lib.hid hcs
              clear hE hn hs' hcs hq
              rw [HE.out] at HOk2
              have hroom : s'.bs.length ≤ k := by
                have h1 := HOk2.out.len
                have h2 : s'.room = k := by rw [← HE.out, step_room, HS.out, runD_room]
                omega
              go_wp2_with fail
              refine HC.out.mono ?_
              rintro e w5 ⟨rfl, hd5⟩
              have HW5 : Hid (Below w.heap.size w w5) := Lib.hid (HW4.out.trans ((Did.low HD4.out (Nat.le_refl _) hd5).mono HLow.out))
              obtain ⟨v5, h5, r5, a5⟩ := other HD4.out HR4.out HNe.out HAp.out hd5
              have H5 := Lib.hid h5
              have R5 := Lib.hid r5
              have A5 := Lib.hid a5
              have HC' := Lib.hid (rsync_any R5.out HOk.out)
              clear hd5 h5 r5 a5 c0 c1 c2
              go_wp2_with fail
              refine HC'.out.mono ?_
              rintro e w6 ⟨rfl, hd6⟩
              have HW6 : Hid (Below w.heap.size w w6) := Lib.hid (HW5.out.trans ((Did.low R5.out (Nat.le_refl _) hd6).mono HLowR.out))
              rw [← HS'.out] at hd6
              obtain ⟨u6, r6, h6, a6⟩ := other R5.out H5.out (fun e => HNe.out e.symm) A5.out.symm hd6
              have HT6 := Lib.hid (show Two (R + 1) D R s' w6 from ⟨v5, u6, h6, r6, HNe.out, a6.symm⟩)
              clear hd6 r6 a6
              rcases HCS.out with rfl | ⟨hn0, hbs, hls⟩
              · have HR8 := Lib.hid (read_any h6 HOk2.out)
                clear h6
                go_wp2_with fail
                refine HR8.out.mono ?_
                intro e w8 hg8
                obtain ⟨A8, c8, rfl, _, hb8, _⟩ := give_str hg8
                have HT8 := Lib.hid (HT6.out.below hb8)
                have HW8 : Hid (Below w.heap.size w w8) := Lib.hid (HW6.out.trans (hb8.mono HW6.out.size))
                clear hg8 hb8
                go_wp2
                go_roundw
                case rel => exact ⟨j + 1, Hlt.out, by go_num, by rw [HS2.out, HE.out]; exact HT8.out, HW8.out⟩
                case measure => have := Hlt.out; simp [intOf]; omega
              · have d0 : (n == 0) = false := by simpa using hn0
                have hself : (s.bs == s.bs) = true := by simp
                have hself2 : ((s.last : Int) == (s.last : Int)) = true := by simp
                have HR7 := Lib.hid (read_any h6 HOk2.out)
                have HBS := Lib.hid hbs
                have HLS := Lib.hid hls
                clear hbs hls
                have H6 := Lib.hid h6
                clear h6
                go_wp2_with fail
                refine HR7.out.mono ?_
                intro e w7 hg7
                obtain ⟨A7, c7, rfl, _, hb7, hs7⟩ := give_str hg7
                have hcv7 := hs7 w7 (Below.refl _ _)
                have hbs2 := congrArg List.toArray HBS.out
                rw [hbs2] at hcv7
                clear hbs2
                have HB7 := Lib.hid hb7
                have HL7 := Lib.hid (lasts_any (H6.out.below hb7))
                rw [HLS.out] at HL7
                have HT7 := Lib.hid (HT6.out.below hb7)
                have hD7 := H6.out.below hb7
                have HR8 := Lib.hid (read_any hD7 HOk2.out)
                have HW7 : Hid (Below w.heap.size w w7) := Lib.hid (HW6.out.trans (hb7.mono HW6.out.size))
                clear hg7 hb7 hs7 hD7
                go_wp2_with fail
                refine HL7.out.mono ?_
                rintro e w7' ⟨rfl, rfl⟩
                clear hcv7
                go_wp2_with fail
                refine HR8.out.mono ?_
                intro e w8 hg8
                obtain ⟨A8, c8, rfl, _, hb8, _⟩ := give_str hg8
                have HT8 := Lib.hid (HT7.out.below hb8)
                have HW8 : Hid (Below w.heap.size w w8) := Lib.hid (HW7.out.trans (hb8.mono HW7.out.size))
                clear hg8 hb8
                go_wp2
                go_roundw
                case rel => exact ⟨j + 1, Hlt.out, by go_num, by rw [HS2.out, HE.out]; exact HT8.out, HW8.out⟩
                case measure => have := Hlt.out; simp [intOf]; omega
            · have hE : stepD s x = (swapD s x.data).2 := by unfold stepD; rw [if_neg (by omega), if_neg (by omega), if_pos hq.symm]
              have HC := Lib.hid (swap_any (c := x.cap) HD4.out HOk.out (ByO.of (HXB.out.below HW4.out) (Oth.low HD4.out HLow.out)))
              obtain ⟨n, hn⟩ : ∃ n, n = (swapD s x.data).1 := ⟨_, rfl⟩
              have hcs := swap_cases s x.data
              obtain ⟨s', hs'⟩ : ∃ s', s' = (swapD s x.data).2 := ⟨_, rfl⟩
              unfold Ans at HC
              rw [← hn, ← hs'] at HC
              rw [← hn, ← hs'] at hcs
              have HN := Lib.hid hn
              have HS' := Lib.hid hs'
              have HE : Hid (stepD s x = s') := Lib.hid (hE.trans hs'.symm)
              have HCS := Lib.hid hcs
              clear hE hn hs' hcs hq
              rw [HE.out] at HOk2
              have hroom : s'.bs.length ≤ k := by
                have h1 := HOk2.out.len
                have h2 : s'.room = k := by rw [← HE.out, step_room, HS.out, runD_room]
                omega
              go_wp2_with fail
              refine HC.out.mono ?_
              rintro e w5 ⟨rfl, hd5⟩
              have HW5 : Hid (Below w.heap.size w w5) := Lib.hid (HW4.out.trans ((Did.low HD4.out (Nat.le_refl _) hd5).mono HLow.out))
              obtain ⟨v5, h5, r5, a5⟩ := other HD4.out HR4.out HNe.out HAp.out hd5
              have k2 := (HW5.out.cell (p := ⟨b, o + j * 3 + 2, none⟩) HBl.out).trans HC2.out
              have H5 := Lib.hid h5
              have R5 := Lib.hid r5
              have A5 := Lib.hid a5
              have HC' := Lib.hid (rswap_any (c := x.cap) R5.out HOk.out (ByO.of (HXB.out.below HW5.out) (Oth.low R5.out HLowR.out)) (by have := HXL.out; omega))
              clear hd5 h5 r5 a5 c0 c1 c2
              go_wp2_with fail
              refine HC'.out.mono ?_
              rintro e w6 ⟨rfl, hd6⟩
              clear k2
              have HW6 : Hid (Below w.heap.size w w6) := Lib.hid (HW5.out.trans ((Did.low R5.out (Nat.le_refl _) hd6).mono HLowR.out))
              rw [← HS'.out] at hd6
              obtain ⟨u6, r6, h6, a6⟩ := other R5.out H5.out (fun e => HNe.out e.symm) A5.out.symm hd6
              have HT6 := Lib.hid (show Two (R + 1) D R s' w6 from ⟨v5, u6, h6, r6, HNe.out, a6.symm⟩)
              clear hd6 r6 a6
              rcases HCS.out with rfl | ⟨hn0, hbs, hls⟩
              · have HR8 := Lib.hid (read_any h6 HOk2.out)
                clear h6
                go_wp2_with fail
                refine HR8.out.mono ?_
                intro e w8 hg8
                obtain ⟨A8, c8, rfl, _, hb8, _⟩ := give_str hg8
                have HT8 := Lib.hid (HT6.out.below hb8)
                have HW8 : Hid (Below w.heap.size w w8) := Lib.hid (HW6.out.trans (hb8.mono HW6.out.size))
                clear hg8 hb8
                go_wp2
                go_roundw
                case rel => exact ⟨j + 1, Hlt.out, by go_num, by rw [HS2.out, HE.out]; exact HT8.out, HW8.out⟩
                case measure => have := Hlt.out; simp [intOf]; omega
              · have d0 : (n == 0) = false := by simpa using hn0
                have hself : (s.bs == s.bs) = true := by simp
                have hself2 : ((s.last : Int) == (s.last : Int)) = true := by simp
                have HR7 := Lib.hid (read_any h6 HOk2.out)
                have HBS := Lib.hid hbs
                have HLS := Lib.hid hls
                clear hbs hls
                have H6 := Lib.hid h6
                clear h6
                go_wp2_with fail
                refine HR7.out.mono ?_
                intro e w7 hg7
                obtain ⟨A7, c7, rfl, _, hb7, hs7⟩ := give_str hg7
                have hcv7 := hs7 w7 (Below.refl _ _)
                have hbs2 := congrArg List.toArray HBS.out
                rw [hbs2] at hcv7
                clear hbs2
                have HB7 := Lib.hid hb7
                have HL7 := Lib.hid (lasts_any (H6.out.below hb7))
                rw [HLS.out] at HL7
                have HT7 := Lib.hid (HT6.out.below hb7)
                have hD7 := H6.out.below hb7
                have HR8 := Lib.hid (read_any hD7 HOk2.out)
                have HW7 : Hid (Below w.heap.size w w7) := Lib.hid (HW6.out.trans (hb7.mono HW6.out.size))
                clear hg7 hb7 hs7 hD7
                go_wp2_with fail
                refine HL7.out.mono ?_
                rintro e w7' ⟨rfl, rfl⟩
                clear hcv7
                go_wp2_with fail
                refine HR8.out.mono ?_
                intro e w8 hg8
                obtain ⟨A8, c8, rfl, _, hb8, _⟩ := give_str hg8
                have HT8 := Lib.hid (HT7.out.below hb8)
                have HW8 : Hid (Below w.heap.size w w8) := Lib.hid (HW7.out.trans (hb8.mono HW7.out.size))
                clear hg8 hb8
                go_wp2
                go_roundw
                case rel => exact ⟨j + 1, Hlt.out, by go_num, by rw [HS2.out, HE.out]; exact HT8.out, HW8.out⟩
                case measure => have := Hlt.out; simp [intOf]; omega
            · obtain ⟨n0, n1, n2⟩ := hne
              have d0 : (q == 0) = false := by simpa using n0
              have d1 : (q == 1) = false := by simpa using n1
              have d2 : (q == 2) = false := by simpa using n2
              have HSt := Lib.hid (step_any ⟨v, u, HD4.out, HR4.out, HNe.out, HAp.out⟩ HOk.out HLow.out HLowR.out x (HXB.out.below HW4.out) HXL.out)
              have HQ := Lib.hid hq
              obtain ⟨s', hs'⟩ : ∃ s', s' = stepD s x := ⟨_, rfl⟩
              rw [← hs'] at HSt HOk2
              have HS' := Lib.hid hs'
              have hroom : s'.bs.length ≤ k := by
                have h1 := HOk2.out.len
                have h2 : s'.room = k := by rw [HS'.out, step_room, HS.out, runD_room]
                omega
              clear n0 n1 n2 hs'
              rw [hq] at d0 d1 d2 c0
              clear hq
              go_wp2_with fail
              refine HSt.out.mono ?_
              rintro e w6 ⟨rfl, hT6, hb6⟩
              have HT6 := Lib.hid hT6
              have HW6 : Hid (Below w.heap.size w w6) := Lib.hid (HW4.out.trans hb6)
              clear hb6 c0 c1 c2
              obtain ⟨v6, u6, h6, _, _, _⟩ := hT6
              have HR8 := Lib.hid (read_any h6 HOk2.out)
              clear h6
              go_wp2_with fail
              refine HR8.out.mono ?_
              intro e w8 hg8
              obtain ⟨A8, c8, rfl, _, hb8, _⟩ := give_str hg8
              have HT8 := Lib.hid (HT6.out.below hb8)
              have HW8 : Hid (Below w.heap.size w w8) := Lib.hid (HW6.out.trans (hb8.mono HW6.out.size))
              clear hg8 hb8
              go_wp2
              go_roundw
              case rel => exact ⟨j + 1, Hlt.out, by go_num, by rw [HS2.out, ← HS'.out]; exact HT8.out, HW8.out⟩
              case measure => have := Hlt.out; simp [intOf]; omega
          · obtain rfl : j = L.length := by omega
            go_wp2
            go_ret
            exact ⟨rfl, HBj.out⟩
      · exact absurd ⟨by have := HK.out; omega, by have := HK.out; omega⟩ h0
    · go_wp2
      go_ret
      exact ⟨rfl, HB2.out⟩
  · go_wp2
    go_ret
    exact ⟨rfl, HB1.out⟩

end Go.Proofs.Ytofaapcfileojaa
