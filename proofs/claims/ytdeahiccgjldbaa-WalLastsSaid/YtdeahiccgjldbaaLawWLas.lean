/- The law WalLasts. -/
import Derived.Test.YtdeahiccgjldbaaWalS
namespace Go.Proofs.Ytdeahiccgjldbaa
open Go.RowKit

set_option maxRecDepth 100000 in
set_option maxHeartbeats 8000000 in
theorem law_lasts (room keep : Int) (Ak As : Option Addr) (ck cs : Nat) (K : List SlV) (S : List Bool) (w : World) (hK : Ls w w.heap.size Ak K) (hS : Bs w w.heap.size As S) :
    Calls Try.prog 4 #[.agg #[.int .i64 room, .int .i64 keep], .slice Ak K.length ck, .slice As S.length cs] w fun e w' => e = .returned (.bool true) ∧ Below w.heap.size w w' := by
  obtain ⟨W0, hW0⟩ : ∃ W0, W0 = w.alloc (.cells #[.int .i64 room, .int .i64 keep] 51) := ⟨_, rfl⟩
  have hz0 : W0.heap.size = w.heap.size + 1 := by rw [hW0]; exact Array.size_push _
  have hlow0 : Below w.heap.size w W0 := by rw [hW0]; exact (Below.refl _ _).alloc (Nat.le_refl _) _
  have hbox : W0.heap[w.heap.size]? = some (.cells #[.int .i64 room, .int .i64 keep] 51 (0, 0)) := by rw [hW0]; exact heap_alloc_new w _
  have g0 : W0.cell? ⟨w.heap.size, 0, none⟩ = some (.int .i64 room) := cell_of_row W0 w.heap.size 0 _ _ _ hbox
  have g1 : W0.cell? ⟨w.heap.size, 1, none⟩ = some (.int .i64 keep) := cell_of_row W0 w.heap.size 1 _ _ _ hbox
  have HG0 := Lib.hid g0
  have HG1 := Lib.hid g1
  have HZ0 := Lib.hid hz0
  have HLow0 := Lib.hid hlow0
  have HK := Lib.hid ((hK.below hlow0).more hlow0.size)
  have HS := Lib.hid (show Bs W0 W0.heap.size As S from ⟨fun i x hx => by
    obtain ⟨b, o, e, hb, h1⟩ := (hS.below hlow0).at_ i x hx
    exact ⟨b, o, e, by omega, h1⟩⟩)
  have HA := Lib.hid (awake_any W0)
  have HW0 := Lib.hid hW0
  obtain ⟨G, hG⟩ : ∃ G, G = w.heap.size := ⟨_, rfl⟩
  rw [← hG] at HG0 HG1
  have HGG := Lib.hid hG
  have HGlt : Hid (G < W0.heap.size) := by show _ < _; omega
  have fin : ∀ W', Below W0.heap.size W0 W' → Below w.heap.size w W' := fun W' h => hlow0.trans (h.mono hlow0.size)
  have HFin := Lib.hid fin
  clear hK hS hz0 hlow0 hbox g0 g1 hW0 hG fin
  go_enter Try.func4, Try.ntmps4
  go_upto_region 1 with fail
  change Code.wp _ _ _ _ (w.alloc (.cells #[.int .i64 room, .int .i64 keep] 51))
  rw [← HW0.out, ← HGG.out]
  go_wp2_with fail
  refine HA.out.mono ?_
  rintro e w1 ⟨rfl, hb1⟩
  have HB1 := Lib.hid hb1
  have f0 := (hb1.cell (p := ⟨G, 0, none⟩) HGlt.out).trans HG0.out
  have HN := Lib.hid (new_any w1 room)
  clear hb1
  go_wp2_with fail
  refine HN.out.mono ?_
  rintro e w2 (⟨k, hk, hk0, hk1, rfl, h2, hb2, hz2⟩ | ⟨h0, rfl, rfl⟩)
  · obtain ⟨D, hD⟩ : ∃ D, D = w1.heap.size := ⟨_, rfl⟩
    have hge : W0.heap.size ≤ D := by rw [hD]; exact HB1.out.size
    rw [← hD] at h2 hb2 ⊢
    have HGe := Lib.hid hge
    have H2 := Lib.hid h2
    have HB2 := Lib.hid (HB1.out.trans (hb2.mono hge))
    have HOk0 := Lib.hid (ok_new hk0 hk1)
    have HO := Lib.hid (open_any h2 (ok_new hk0 hk1))
    rw [(Whl.new k 0 (-1)).open_] at HO
    clear hD hge h2 hb2 hz2 hk hk0 hk1 f0
    by_cases hmany : 60 < K.length
    · go_wp2
      go_ret
      exact ⟨rfl, HFin.out _ HB2.out⟩
    · have hk60 : K.length ≤ 60 := by omega
      go_wp2_with fail
      refine HO.out.mono ?_
      rintro e w3 ⟨hd3, (⟨_, Lg, rfl, hLg⟩ | ⟨hx, _⟩)⟩
      · have hst : LasI W0 D Lg K w3 (.slice none 0 0) [] 0 := by
          refine ⟨World.ownsRow_nil _ _ _ _, fun x hx => by simp at hx, hLg, HB2.out.trans (Did.low H2.out HGe.out hd3), HGe.out, ?_⟩
          obtain ⟨v3, h3, _, _⟩ := hd3
          exact ⟨_, v3, h3, HOk0.out, Lst.new k⟩
        have HSt := Lib.hid hst
        clear hst hd3 hLg
        go_wp2
        go_loopw [12, 13, 14] (fun u sr i wr => ∃ (j sure : Nat) (Lo : List SlV), j ≤ K.length ∧ sr = .int .i64 sure ∧ i = .int .i64 j ∧ Lo.length ≤ j ∧ LasI W0 D Lg K wr u Lo sure) (fun _ _ i _ => K.length - (intOf i).toNat)
        case atStart => exact ⟨0, 0, [], Nat.zero_le _, rfl, rfl, Nat.le_refl _, HSt.out⟩
        case round =>
          obtain ⟨j, sure, Lo, hj, rfl, rfl, hlo, hI⟩ := hrel
          have HI := Lib.hid hI
          have HLo := Lib.hid hlo
          obtain ⟨Au, cu, rfl, hcu⟩ := own_form hI.own
          have HCu := Lib.hid hcu
          clear hI hlo hcu
          by_cases hlt : j < K.length
          · obtain ⟨x, hx⟩ : ∃ x, K[j]? = some x := ⟨_, List.getElem?_eq_getElem hlt⟩
            obtain ⟨b, o, rfl, hbB, cx⟩ := (HK.out.below HI.out.low).at_ j x hx
            have HBB := Lib.hid hbB
            have hmem := List.mem_of_getElem? hx
            have HMem := Lib.hid hmem
            have Hlt := Lib.hid hlt
            have hby := ((HK.out.below HI.out.low).data x hmem).more HI.out.low.size
            obtain ⟨s, v, hd, hok, hls⟩ := HI.out.disk
            have HD := Lib.hid hd
            have HOk := Lib.hid hok
            have HLst := Lib.hid hls
            have HAp := Lib.hid (lappend_any (c := x.cap) hd hok HI.out.lg hby)
            clear hx hbB hmem hby hd hok hls
            by_cases hbig : 1100 < x.data.length
            · go_wp2
              go_ret
              exact ⟨rfl, HFin.out _ HI.out.low⟩
            · obtain ⟨q, hq⟩ : ∃ q, q = (appW s x.data).1 := ⟨_, rfl⟩
              have HQ := Lib.hid hq
              clear hq
              go_wp2_with fail
              refine HAp.out.mono ?_
              rintro e w4 ⟨rfl, hd4⟩
              rw [← HQ.out]
              have HLow4 := Lib.hid (HI.out.low.trans (Did.low HD.out HI.out.ge hd4))
              have HOwn4 := Lib.hid (row_did HI.out.own HD.out (by decide) (by decide) hd4)
              have HLg4 := Lib.hid (HI.out.lg.did HD.out (by decide) (by decide) hd4)
              have HLs4 := Lib.hid (HK.out.below HLow4.out)
              have cx4 : w4.cell? ⟨b, o + j, none⟩ = some x.v := by
                have h1 := (HLow4.out.cell (p := ⟨b, o + j, none⟩) HBB.out)
                have h2 := (HI.out.low.cell (p := ⟨b, o + j, none⟩) HBB.out)
                exact (h1.trans h2.symm).trans cx
              have HOk4 := Lib.hid (appW_ok HOk.out x.data)
              have hz : (¬ j < S.length) ∨ (j < S.length ∧ ∃ bz oz z, As = some ⟨bz, oz, none⟩ ∧ ∀ W', Below W0.heap.size W0 W' → W'.cell? ⟨bz, oz + j, none⟩ = some (.bool z)) := by
                by_cases hsy : j < S.length
                · obtain ⟨z, hz⟩ : ∃ z, S[j]? = some z := ⟨_, List.getElem?_eq_getElem hsy⟩
                  obtain ⟨bz, oz, e, hb, hc⟩ := HS.out.at_ j z hz
                  exact .inr ⟨hsy, bz, oz, z, e, fun W' hW => (hW.cell (p := ⟨bz, oz + j, none⟩) hb).trans hc⟩
                · exact .inl hsy
              rcases hz with hsy | ⟨hsy, bz, oz, z, rfl, hcz⟩
              · by_cases h0 : q = 0
                · subst h0
                  have HLst4 := Lib.hid (HLst.out.app x.data HQ.out.symm)
                  obtain ⟨v4, h4, _, _⟩ := hd4
                  have HD4 := Lib.hid h4
                  clear h4 cx
                  go_wp2_with (at_builtin; refine wpList_rowA rfl (.tmp 72) (.tmp 77) rfl rfl HOwn4.out HLow4.out.size x rfl (by have := HLo.out; omega) ?_; intro v5 w5 hown5 hg5; have HI5 := Lib.hid (LasI.app HOwn4.out HI.out.mem HMem.out HLg4.out HLow4.out HI.out.ge HD4.out HOk4.out HLst4.out hown5 hg5); obtain ⟨A5, c5, rfl, hc5⟩ := own_form hown5; rw [show Value.slice A5 (Lo ++ [x]).length c5 = .slice A5 (Lo.length + 1) c5 from by rw [List.length_append]; rfl] at HI5; clear hown5 hg5 hc5)
                  have HLo5 : Hid ((Lo ++ [x]).length ≤ j + 1) := by show _ ≤ _; have := HLo.out; simp; omega
                  go_roundw
                  case rel => exact ⟨j + 1, sure, Lo ++ [x], Hlt.out, rfl, by go_num, HLo5.out, HI5.out⟩
                  case measure => have := Hlt.out; simp [intOf]; omega
                · have hI4 := HI.out.did HD.out hd4 HOk4.out (HLst.out.refused x.data (by rw [← HQ.out]; exact h0))
                  have HI5 := Lib.hid hI4
                  have d0 : (q == 0) = false := by simpa using h0
                  have HLo5 : Hid (Lo.length ≤ j + 1) := by show _ ≤ _; have := HLo.out; omega
                  clear hI4 hd4 cx cx4
                  go_wp2_with fail
                  go_roundw
                  case rel => exact ⟨j + 1, sure, Lo, Hlt.out, rfl, by go_num, HLo5.out, HI5.out⟩
                  case measure => have := Hlt.out; simp [intOf]; omega
              · have HCz := Lib.hid hcz
                clear hcz
                cases z
                · by_cases h0 : q = 0
                  · subst h0
                    have HLst4 := Lib.hid (HLst.out.app x.data HQ.out.symm)
                    obtain ⟨v4, h4, _, _⟩ := hd4
                    have HD4 := Lib.hid h4
                    clear h4 cx
                    go_wp2_with (at_builtin; refine wpList_rowA rfl (.tmp 72) (.tmp 77) rfl rfl HOwn4.out HLow4.out.size x rfl (by have := HLo.out; omega) ?_; intro v5 w5 hown5 hg5; have HI5 := Lib.hid (LasI.app HOwn4.out HI.out.mem HMem.out HLg4.out HLow4.out HI.out.ge HD4.out HOk4.out HLst4.out hown5 hg5); obtain ⟨A5, c5, rfl, hc5⟩ := own_form hown5; rw [show Value.slice A5 (Lo ++ [x]).length c5 = .slice A5 (Lo.length + 1) c5 from by rw [List.length_append]; rfl] at HI5; have cz5 := HCz.out _ HI5.out.low; clear hown5 hg5 hc5)
                    have HLo5 : Hid ((Lo ++ [x]).length ≤ j + 1) := by show _ ≤ _; have := HLo.out; simp; omega
                    go_roundw
                    case rel => exact ⟨j + 1, sure, Lo ++ [x], Hlt.out, rfl, by go_num, HLo5.out, HI5.out⟩
                    case measure => have := Hlt.out; simp [intOf]; omega
                  · have hI4 := HI.out.did HD.out hd4 HOk4.out (HLst.out.refused x.data (by rw [← HQ.out]; exact h0))
                    have HI5 := Lib.hid hI4
                    have d0 : (q == 0) = false := by simpa using h0
                    have HLo5 : Hid (Lo.length ≤ j + 1) := by show _ ≤ _; have := HLo.out; omega
                    have cz5 := HCz.out _ HI5.out.low
                    clear hI4 hd4 cx cx4
                    go_wp2_with fail
                    go_roundw
                    case rel => exact ⟨j + 1, sure, Lo, Hlt.out, rfl, by go_num, HLo5.out, HI5.out⟩
                    case measure => have := Hlt.out; simp [intOf]; omega
                · by_cases h0 : q = 0
                  · subst h0
                    have HLst4 := Lib.hid (HLst.out.app x.data HQ.out.symm)
                    obtain ⟨v4, h4, _, _⟩ := hd4
                    have HD4 := Lib.hid h4
                    clear h4 cx
                    go_wp2_with (at_builtin; refine wpList_rowA rfl (.tmp 72) (.tmp 77) rfl rfl HOwn4.out HLow4.out.size x rfl (by have := HLo.out; omega) ?_; intro v5 w5 hown5 hg5; have HI5 := Lib.hid (LasI.app HOwn4.out HI.out.mem HMem.out HLg4.out HLow4.out HI.out.ge HD4.out HOk4.out HLst4.out hown5 hg5); obtain ⟨A5, c5, rfl, hc5⟩ := own_form hown5; rw [show Value.slice A5 (Lo ++ [x]).length c5 = .slice A5 (Lo.length + 1) c5 from by rw [List.length_append]; rfl] at HI5; have cz5 := HCz.out _ HI5.out.low; have lg5 := HI5.out.lg.cell; clear hown5 hg5 hc5)
                    have HLo5 : Hid ((Lo ++ [x]).length ≤ j + 1) := by show _ ≤ _; have := HLo.out; simp; omega
                    obtain ⟨s5, v5, hd5, hok5, hls5⟩ := HI5.out.disk
                    have HD5 := Lib.hid hd5
                    have HSy := Lib.hid (sync_any hd5 hok5)
                    have HLst5 := Lib.hid hls5.sync
                    have HOk5 := Lib.hid (sync_ok hok5)
                    clear hd5 hok5 hls5
                    refine HSy.out.mono ?_
                    rintro e w6 ⟨rfl, hd6⟩
                    have HI6 := Lib.hid (HI5.out.did HD5.out hd6 HOk5.out HLst5.out.2)
                    rw [HLst5.out.1]
                    clear hd6
                    go_wp2
                    go_roundw
                    case rel =>
                      refine ⟨j + 1, (Lo ++ [x]).length, Lo ++ [x], Hlt.out, ?_, by go_num, HLo5.out, ?_⟩
                      · first | rfl | (simp; done)
                      · have := HI6.out
                        rw [datas_length] at this
                        exact this
                    case measure => have := Hlt.out; simp [intOf]; omega
                  · have hI4 := HI.out.did HD.out hd4 HOk4.out (HLst.out.refused x.data (by rw [← HQ.out]; exact h0))
                    have HI5 := Lib.hid hI4
                    have d0 : (q == 0) = false := by simpa using h0
                    have HLo5 : Hid (Lo.length ≤ j + 1) := by show _ ≤ _; have := HLo.out; omega
                    have cz5 := HCz.out _ HI5.out.low
                    have lg5 := HI5.out.lg.cell
                    clear hI4 hd4 cx cx4
                    go_wp2_with fail
                    obtain ⟨s5, v5, hd5, hok5, hls5⟩ := HI5.out.disk
                    have HD5 := Lib.hid hd5
                    have HSy := Lib.hid (sync_any hd5 hok5)
                    have HLst5 := Lib.hid hls5.sync
                    have HOk5 := Lib.hid (sync_ok hok5)
                    clear hd5 hok5 hls5
                    refine HSy.out.mono ?_
                    rintro e w6 ⟨rfl, hd6⟩
                    have HI6 := Lib.hid (HI5.out.did HD5.out hd6 HOk5.out HLst5.out.2)
                    rw [HLst5.out.1]
                    clear hd6
                    go_wp2
                    go_roundw
                    case rel =>
                      refine ⟨j + 1, (Lo).length, Lo, Hlt.out, ?_, by go_num, HLo5.out, ?_⟩
                      · first | rfl | (simp; done)
                      · have := HI6.out
                        rw [datas_length] at this
                        exact this
                    case measure => have := Hlt.out; simp [intOf]; omega
          · obtain rfl : j = K.length := by omega
            obtain ⟨s, v, hd, hok, hls⟩ := HI.out.disk
            have HD := Lib.hid hd
            have HOk := Lib.hid hok
            have HCr := Lib.hid (crash_any hd hok keep)
            have HOkC := Lib.hid (crash_ok hok keep)
            have HAg := Lib.hid (again_opens hok keep)
            have HOkA := Lib.hid (again_ok hok keep)
            obtain ⟨wh, hw1, hw2, hw3⟩ := hls.again hok keep
            have HW3 := Lib.hid hw3
            have f1 := (HI.out.low.cell (p := ⟨G, 1, none⟩) HGlt.out).trans HG1.out
            rw [datas_length] at hw2
            have HW1 := Lib.hid hw1
            have HW2 := Lib.hid hw2
            clear hd hok hls hw1 hw2 hw3
            go_wp2_with fail
            refine HCr.out.mono ?_
            rintro e w4 ⟨rfl, hd4⟩
            have HLow4 := Lib.hid (HI.out.low.trans (Did.low HD.out HI.out.ge hd4))
            have HOwn4 := Lib.hid (row_did HI.out.own HD.out (by decide) (by decide) hd4)
            obtain ⟨v4, h4, _, _⟩ := hd4
            have HD4 := Lib.hid h4
            have HOp := Lib.hid (open_any h4 HOkC.out)
            clear h4 f1
            go_wp2_with fail
            refine HOp.out.mono ?_
            rintro e w5 ⟨hd5, (⟨_, L5, rfl, hL5⟩ | ⟨hx, _⟩)⟩
            · have HLow5 := Lib.hid (HLow4.out.trans (Did.low HD4.out HI.out.ge hd5))
              have HOwn5 := Lib.hid (row_did HOwn4.out HD4.out (by decide) (by decide) hd5)
              obtain ⟨v5, h5, _, _⟩ := hd5
              have h5 : DAt DT (D + 1) w5 D (againW s keep).2 v5 := h5
              have HRec := Lib.hid (records_any h5 HOkA.out hL5)
              rw [HW3.out] at HRec
              clear h5 hL5
              go_wp2_with fail
              refine HRec.out.mono ?_
              rintro e w6 ⟨A6, c6, K6, rfl, hK6, hrow6⟩
              have HLow6 := Lib.hid (HLow5.out.trans (hrow6.low.mono HLow5.out.size))
              have hown6 := HOwn5.out.kept (grownBy_of_below hrow6.low) (by cases (Value.slice Au Lo.length cu).ownBlock <;> simp)
              have hlo6 : Ls w6 w6.heap.size Au Lo := LasI.ls hown6 HI.out.mem (HK.out.below HLow6.out) HLow6.out.size
              have hn6 : K6.length = wh := by
                have h1 := congrArg List.length hK6
                rw [datas_length, List.length_take, datas_length] at h1
                have := HW2.out
                omega
              have hw1 := HW1.out
              have hw2 := HW2.out
              have hlt2 : (Lo.take wh).length = wh := by rw [List.length_take]; omega
              have HSame := same_any _ _ A6 Au c6 cu K6 (Lo.take wh) w6 hrow6.ls.1 (hlo6.take wh) (by have := HLo.out; omega)
              rw [datas_take, hK6, decide_eq_true rfl, hlt2, hn6] at HSame
              have HSame := Lib.hid HSame
              have hcut := fun W => run_headS Au Lo.length cu (wh : Int) (by omega) (by have := HCu.out; omega) W
              rw [Int.toNat_natCast] at hcut
              rw [hn6]
              clear hK6 hrow6 hown6 hlo6 hn6 hlt2
              go_wp2_with fail
              refine HSame.out.mono ?_
              rintro e w7 ⟨rfl, n, rfl⟩
              go_wp2
              go_ret
              exact ⟨rfl, HFin.out _ (HLow6.out.trans ((below_drewN w6 n).mono HLow6.out.size))⟩
            · exact absurd HAg.out.1 hx
      · exact absurd rfl hx
  · go_wp2
    go_ret
    exact ⟨rfl, HFin.out _ HB1.out⟩

end Go.Proofs.Ytdeahiccgjldbaa
