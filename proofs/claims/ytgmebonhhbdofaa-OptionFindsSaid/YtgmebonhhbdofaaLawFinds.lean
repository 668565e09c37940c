/- The law OptionFinds. -/
import Derived.Test.YtgmebonhhbdofaaFindL
import Derived.Deep.QuietTactic
import Derived.BigQuiet
namespace Go.Proofs.Ytgmebonhhbdofaa
open Go.RowKit

theorem below_drewN {B : Nat} {w W : World} (h : Below B w W) (n : Nat) : Below B w (W.drewN n) := ⟨h.os, h.tape, h.output, h.size, h.block⟩

set_option maxRecDepth 100000 in
set_option maxHeartbeats 3000000 in
theorem law_finds (A A0 : Option Addr) (c c0 : Nat) (L : List OptV) (x0 x1 : Int) (data : List UInt8) (w : World) (hr : Op w w.heap.size A L) (hlm : L.length ≤ 9223372036854775807) (hdm : ∀ x ∈ L, x.data.length ≤ 9223372036854775807) (hd : By w w.heap.size A0 data) (hdl : data.length ≤ 9223372036854775807) :
    Calls Try.prog 8 #[.slice A L.length c, .agg #[.int .i64 x0, .int .i64 x1], .slice A0 data.length c0] w fun e w' => e = .returned (.bool true) ∧ Below w.heap.size w w' := by
  obtain ⟨w0, hw0⟩ : ∃ w0, w0 = w.alloc (.cells #[.int .i64 x0, .int .i64 x1] 42) := ⟨_, rfl⟩
  have hB0 : Below w.heap.size w w0 := by rw [hw0]; exact (Below.refl _ _).alloc (Nat.le_refl _) _
  have hbx : w0.heap[w.heap.size]? = some (.cells #[.int .i64 x0, .int .i64 x1] 42 (0, 0)) := by rw [hw0]; exact heap_alloc_new w _
  have hzb : w.heap.size < w0.heap.size := by rw [hw0]; simp
  have HX : Hid (∀ W, Below w0.heap.size w0 W → W.cell? ⟨w.heap.size, 0, none⟩ = some (.int .i64 x0) ∧ W.cell? ⟨w.heap.size, 1, none⟩ = some (.int .i64 x1)) := by
    show ∀ W, _
    intro W hW
    have h := (hW.block _ hzb).trans hbx
    have h0 := cell_of_row W w.heap.size 0 _ _ _ h
    have h1 := cell_of_row W w.heap.size 1 _ _ _ h
    simp at h0 h1
    exact ⟨h0, h1⟩
  obtain ⟨i0, hi, hz0, hz1, hz2⟩ := info_parts Try.infoO
  have HW := Lib.hid hw0
  have HA := Lib.hid (awake_any w0)
  have HR := Lib.hid (hr.later hB0)
  have HD := Lib.hid (hd.later hB0)
  have HF := Lib.hid (fun W (h : Op W W.heap.size A L) => few_any A c L W h hlm hdm)
  clear hr hd hdm hw0 hbx
  cases hfew : fewB L
  · rw [hfew] at HF
    clear hfew
    go_enter Try.func8, Try.ntmps8
    go_wp2_with fail
    rw [← HW.out]
    refine HA.out.mono ?_
    rintro e w1 ⟨rfl, hB1⟩
    go_wp2_with fail
    refine (HF.out w1 (HR.out.later hB1)).mono ?_
    rintro e w' ⟨rfl, rfl⟩
    go_wp2
    go_ret
    exact ⟨rfl, hB0.trans (hB1.mono hB0.size)⟩
  · have HFL := Lib.hid ((few_iff L).1 hfew)
    rw [hfew] at HF
    clear hfew
    by_cases hbig : 1000 < data.length
    · have hd1 : decide ((1000 : Int) < (data.length : Int)) = true := by simp; omega
      go_enter Try.func8, Try.ntmps8
      go_wp2_with fail
      rw [← HW.out]
      refine HA.out.mono ?_
      rintro e w1 ⟨rfl, hB1⟩
      go_wp2_with fail
      refine (HF.out w1 (HR.out.later hB1)).mono ?_
      rintro e w' ⟨rfl, rfl⟩
      go_wp2
      go_ret
      exact ⟨rfl, hB0.trans (hB1.mono hB0.size)⟩
    · have hd1 : decide ((1000 : Int) < (data.length : Int)) = false := by simp; omega
      have hLL := HFL.out.1
      have hpl := put_len L x0 data
      have HPL := Lib.hid hpl
      clear hpl
      go_enter Try.func8, Try.ntmps8
      go_wp2_with fail
      rw [← HW.out]
      refine HA.out.mono ?_
      rintro e w1 ⟨rfl, hB1⟩
      have H1 := Lib.hid (HR.out.later hB1)
      have HD1 := Lib.hid (HD.out.later hB1)
      go_wp2_with fail
      refine (HF.out w1 H1.out).mono ?_
      rintro e w' ⟨rfl, rfl⟩
      obtain ⟨p0, p1⟩ := HX.out w1 hB1
      go_wp2_with fail
      refine (put_any A A0 c c0 L x0 data w1 H1.out HFL.out.1 HFL.out.2 HD1.out (by omega)).mono ?_
      rintro e w2 ⟨A2, c2, M, rfl, hab2, hop2, hB2⟩
      have hM : M.length ≤ 101 := by have := HPL.out; rw [← absL_length, hab2]; omega
      have HDM : Hid (∀ x ∈ M, x.data.length ≤ 1000) := fun x hx => data_put (absL L) x0 data 1000 (by omega) (fun y hy => by obtain ⟨z, hz, rfl⟩ := List.mem_map.1 hy; exact HFL.out.2 z hz) x.abs (by rw [← hab2]; exact List.mem_map.2 ⟨x, hx, rfl⟩)
      have HAB := Lib.hid hab2
      have HOP := Lib.hid hop2
      have hB02 := hB1.trans (hB2.mono hB1.size)
      obtain ⟨q0, q1⟩ := HX.out w2 hB02
      clear hab2 hop2 p0 p1
      have G1 := Lib.hid (find_any A2 c2 M x0 w2 HOP.out (by omega) HDM.out)
      rw [show findL (absL M) x0 = (data, true) by rw [HAB.out, find_put]] at G1
      go_wp2_with fail
      refine G1.out.mono ?_
      rintro e w3 ⟨A3, c3, rfl, hby3, hB3⟩
      have HOP3 := Lib.hid (HOP.out.later hB3)
      have hB03 := hB02.trans (hB3.mono hB02.size)
      have HBY3 := Lib.hid hby3
      clear hby3 q0 q1
      obtain ⟨q0, q1⟩ := HX.out w3 hB03
      have G2 := Lib.hid (find_any A2 c2 M x1 w3 HOP3.out (by omega) HDM.out)
      go_wp2_with fail
      refine G2.out.mono ?_
      rintro e w4 ⟨A4, c4, rfl, hby4, hB4⟩
      have hB04 := hB03.trans (hB4.mono hB03.size)
      have HBY4 := Lib.hid hby4
      clear hby4 q0 q1
      obtain ⟨q0, q1⟩ := HX.out w4 hB04
      have HR4 := Lib.hid (HR.out.later hB04)
      have G3 := Lib.hid (find_any A c L x1 w4 HR4.out (by omega) HFL.out.2)
      go_wp2_with fail
      refine G3.out.mono ?_
      rintro e w5 ⟨A5, c5, rfl, hby5, hB5⟩
      have hB05 := hB04.trans (hB5.mono hB04.size)
      have HBY5 := Lib.hid hby5
      clear hby5 q0 q1
      have HR5 := Lib.hid (HR.out.later hB05)
      go_wp2
      go_loopw [16, 19] (fun v i wr => ∃ (k : Nat) (Lo : List OptV), k ≤ L.length ∧ i = .int .i64 k ∧ wr.ownsRow w5.heap.size 44 2 v Lo.length (ocells Lo) ∧ absL Lo = othersL x0 ((absL L).take k) ∧ (∀ y ∈ Lo, By w5 w5.heap.size y.ad y.data) ∧ Lo.length ≤ k ∧ Below w5.heap.size w5 wr) (fun _ i _ => L.length - (intOf i).toNat)
      case atStart => exact ⟨0, [], Nat.zero_le _, rfl, ⟨rfl, .inl ⟨rfl, rfl⟩⟩, rfl, fun y h => by simp at h, Nat.le_refl _, Below.refl _ _⟩
      case round =>
        obtain ⟨k, Lo, hk, rfl, hown, hoth, hdat, hLk, hB⟩ := hrel
        have hsz := hB.size
        have hB0r := hB05.trans (hB.mono hB05.size)
        obtain ⟨q0, q1⟩ := HX.out wr hB0r
        have HO := Lib.hid hoth
        have HDT := Lib.hid hdat
        clear hoth hdat q1
        by_cases hlt : k < L.length
        · obtain ⟨x, hx⟩ : ∃ x, L[k]? = some x := ⟨_, List.getElem?_eq_getElem hlt⟩
          obtain ⟨b, o, rfl, hb, hc1, hc2⟩ := (HR5.out.below hB).at_ k x hx
          have HN := Lib.hid (take_snoc_of (absL L) k x.abs (absL_at hx))
          have HXD := Lib.hid (HR5.out.data x (List.mem_of_getElem? hx))
          have ik0 : (0 : Int) ≤ (k : Int) := by omega
          have ik1 : (k : Int) < (L.length : Int) := by omega
          clear hx
          by_cases hcode : x.code = x0
          · have hne : (x.code != x0) = false := by simpa using hcode
            have HC := Lib.hid hcode
            clear hcode
            go_wp2
            go_quiet (fail)
            go_wp2
            go_roundw
            case rel => exact ⟨k + 1, Lo, by omega, by go_num, hown, by rw [HN.out, others_snoc, ← HO.out]; simp [OptV.abs, HC.out], HDT.out, by omega, below_drewN hB _⟩
            case measure => simp [intOf]; omega
          · have hne : (x.code != x0) = true := by simpa using hcode
            have HC := Lib.hid hcode
            clear hcode
            go_wp2
            go_quiet (fail)
            have hownN : (wr.drewN nq).ownsRow w5.heap.size 44 2 u16 Lo.length (ocells Lo) := hown
            have hBN := below_drewN hB nq
            have hszN : w5.heap.size ≤ (wr.drewN nq).heap.size := hsz
            go_wp2_with (at_builtin; refine wpList_append_own _ rfl (.tmp 78) (.tmp 83) 22 rfl w5.heap.size 44 i0 _ 2 32 Try.underlying22 hi hz0 hz1 hz2 rfl (by decide) u16 Lo.length (ocells Lo) rfl (hownN.alloc _) ⟨wr.heap.size, 0, none⟩ 1 1 [.int .i64 x.code, .slice x.ad x.data.length x.cap] rfl rfl (World.news_of_block (cs := #[.int .i64 x.code, .slice x.ad x.data.length x.cap]) (t := 44) (fr := (0, 0)) (heap_alloc_new (wr.drewN nq) _)) (by simp [Value.oneCell']) (by unfold maxLen; omega) (by omega) (by simp; omega) ?_; intro v' w6 hown' hg' _)
            go_roundw
            case rel =>
              refine ⟨k + 1, Lo ++ [x], by omega, by go_num, row_snoc rfl rfl hown', ?_, ?_, by simp; omega, own_below (hBN.alloc hszN (.cells #[.int .i64 x.code, .slice x.ad x.data.length x.cap] 44)) (by simp; omega) (hownN.alloc _) hg'⟩
              · rw [HN.out, others_snoc, ← HO.out]; simp [OptV.abs, HC.out, absL]
              · intro y hy
                rcases List.mem_append.1 hy with hy | hy
                · exact HDT.out y hy
                · simp at hy; subst hy; exact HXD.out
            case measure => simp [intOf]; omega
        · have HO1 : Hid (absL Lo = othersL x0 (absL L)) := by show _ = _; rw [HO.out, List.take_of_length_le (by rw [absL_length]; omega)]
          obtain ⟨A6, c6, rfl, _⟩ := own_form hown
          have HP6 := Lib.hid (Op.of_own hown (fun y hy => (HDT.out y hy).later hB))
          have HM6 := Lib.hid ((HOP3.out.later hB4).later (hB5.trans (hB.mono hB5.size)))
          have hLo : Lo.length ≤ 100 := by omega
          clear hown HDT HO q0
          go_wp2
          generalize hV : wr = V at *
          clear hV
          go_loopw [17, 18, 20] (fun v nv i wq => ∃ (k : Nat) (Lp : List OptV), k ≤ M.length ∧ i = .int .i64 k ∧ nv = .int .i64 (countC x0 ((absL M).take k) : Nat) ∧ wq.ownsRow V.heap.size 44 2 v Lp.length (ocells Lp) ∧ absL Lp = othersL x0 ((absL M).take k) ∧ (∀ y ∈ Lp, By V V.heap.size y.ad y.data) ∧ Lp.length ≤ k ∧ Below V.heap.size V wq) (fun _ _ i _ => M.length - (intOf i).toNat)
          case atStart => exact ⟨0, [], Nat.zero_le _, rfl, rfl, ⟨rfl, .inl ⟨rfl, rfl⟩⟩, rfl, fun y h => by simp at h, Nat.le_refl _, Below.refl _ _⟩
          case round =>
            obtain ⟨j, Lp, hj, rfl, rfl, hown, hoth, hdat, hLj, hBq⟩ := hrel
            have hszq := hBq.size
            have hB0q := hB0r.trans (hBq.mono hB0r.size)
            obtain ⟨q0, q1⟩ := HX.out wr hB0q
            have HO := Lib.hid hoth
            have HDT := Lib.hid hdat
            clear hoth hdat
            have hcnt : countC x0 ((absL M).take j) ≤ j := Nat.le_trans List.countP_le_length (by simp; omega)
            by_cases hlt : j < M.length
            · obtain ⟨x, hx⟩ : ∃ x, M[j]? = some x := ⟨_, List.getElem?_eq_getElem hlt⟩
              obtain ⟨b, o, rfl, hb, hc1, hc2⟩ := (HM6.out.below hBq).at_ j x hx
              have HN := Lib.hid (take_snoc_of (absL M) j x.abs (absL_at hx))
              have HXD := Lib.hid (HM6.out.data x (List.mem_of_getElem? hx))
              have ik0 : (0 : Int) ≤ (j : Int) := by omega
              have ik1 : (j : Int) < (M.length : Int) := by omega
              have HK := Lib.hid (count_snoc x0 ((absL M).take j) x.abs)
              generalize hcn : countC x0 ((absL M).take j) = cn at *
              clear hx hcn
              by_cases hcode : x.code = x0
              · have hne : (x.code != x0) = false := by simpa using hcode
                have HC := Lib.hid hcode
                clear hcode
                go_wp2
                go_quiet (fail)
                go_wp2
                go_roundw
                case rel => exact ⟨j + 1, Lp, by omega, by go_num, by rw [HN.out, HK.out, if_pos (show x.abs.1 = x0 from HC.out)]; go_num, hown, by rw [HN.out, others_snoc, ← HO.out]; simp [OptV.abs, HC.out], HDT.out, by omega, below_drewN hBq _⟩
                case measure => simp [intOf]; omega
              · have hne : (x.code != x0) = true := by simpa using hcode
                have HC := Lib.hid hcode
                clear hcode
                go_wp2
                go_quiet (fail)
                have hownN : (wr.drewN nq).ownsRow V.heap.size 44 2 u17 Lp.length (ocells Lp) := hown
                have hBN := below_drewN hBq nq
                have hszN : V.heap.size ≤ (wr.drewN nq).heap.size := hszq
                go_wp2_with (at_builtin; refine wpList_append_own _ rfl (.tmp 99) (.tmp 104) 22 rfl V.heap.size 44 i0 _ 2 32 Try.underlying22 hi hz0 hz1 hz2 rfl (by decide) u17 Lp.length (ocells Lp) rfl (hownN.alloc _) ⟨wr.heap.size, 0, none⟩ 1 1 [.int .i64 x.code, .slice x.ad x.data.length x.cap] rfl rfl (World.news_of_block (cs := #[.int .i64 x.code, .slice x.ad x.data.length x.cap]) (t := 44) (fr := (0, 0)) (heap_alloc_new (wr.drewN nq) _)) (by simp [Value.oneCell']) (by unfold maxLen; omega) (by omega) (by simp; omega) ?_; intro v' w6 hown' hg' _)
                go_roundw
                case rel =>
                  refine ⟨j + 1, Lp ++ [x], by omega, by go_num, by rw [HN.out, HK.out, if_neg (show ¬ x.abs.1 = x0 from HC.out)]; rfl, row_snoc rfl rfl hown', ?_, ?_, by simp; omega, own_below (hBN.alloc hszN (.cells #[.int .i64 x.code, .slice x.ad x.data.length x.cap] 44)) (by simp; omega) (hownN.alloc _) hg'⟩
                  · rw [HN.out, others_snoc, ← HO.out]; simp [OptV.abs, HC.out, absL]
                  · intro y hy
                    rcases List.mem_append.1 hy with hy | hy
                    · exact HDT.out y hy
                    · simp at hy; subst hy; exact HXD.out
                case measure => simp [intOf]; omega
            · have hcn : countC x0 ((absL M).take j) = 1 := by rw [List.take_of_length_le (by rw [absL_length]; omega), HAB.out, count_put]
              rw [hcn]
              have HO2 : Hid (absL Lo = absL Lp) := by show _ = _; rw [HO1.out, HO.out, List.take_of_length_le (by rw [absL_length]; omega), HAB.out, others_put]
              obtain ⟨A7, c7, rfl, _⟩ := own_form hown
              have HP7 := Lib.hid (Op.of_own hown (fun y hy => (HDT.out y hy).later hBq))
              have HS := Lib.hid (same_any A6 A7 c6 c7 Lo Lp wr (HP6.out.later hBq) HP7.out (by omega))
              rw [show decide (absL Lo = absL Lp) = true by rw [HO2.out]; simp] at HS
              have hB5q := hB.trans (hBq.mono hB.size)
              have hs3 : ∀ m, (convert 25 9 (.slice A3 data.length c3)).run Try.prog (wr.drewN m) = .ok (.string ⟨data.toArray⟩) (wr.drewN m) := fun m => str_run c3 ((HBY3.out.later (hB4.trans ((hB5.trans (hB5q.mono hB5.size)).mono hB4.size))).drewN m)
              have hsd : ∀ m, (convert 25 9 (.slice A0 data.length c0)).run Try.prog (wr.drewN m) = .ok (.string ⟨data.toArray⟩) (wr.drewN m) := fun m => str_run c0 ((HD.out.later hB0q).drewN m)
              have hs4 := str_run c4 (HBY4.out.later (hB5.trans (hB5q.mono hB5.size)))
              have hs5 := str_run c5 (HBY5.out.later hB5q)
              have hdd : (data == data) = true := by simp
              have hBz := hB0.trans (hB0q.mono hB0.size)
              clear hcn hcnt hown HDT HO HM6
              by_cases hxx : x0 = x1
              · have he : (x0 == x1) = true := by simpa using hxx
                clear hxx
                go_wp2_with fail
                refine HS.out.mono ?_
                rintro e w8 ⟨rfl, n, rfl⟩
                go_wp2
                go_ret
                exact ⟨rfl, below_drewN hBz n⟩
              · have he : (x0 == x1) = false := by simpa using hxx
                have hfe : findL (absL M) x1 = findL (absL L) x1 := by rw [HAB.out, find_put_ne _ _ _ _ (fun e => hxx e.symm)]
                rw [hfe]
                rw [hfe] at hs4
                clear hxx hfe G1 G2 G3 HBY4 HBY5
                generalize (findL (absL L) x1).1 = fd at *
                generalize (findL (absL L) x1).2 = fb at *
                have hbb : (fb == fb) = true := by simp
                have hff : (fd == fd) = true := by simp
                go_wp2_with fail
                refine HS.out.mono ?_
                rintro e w8 ⟨rfl, n, rfl⟩
                go_wp2
                go_ret
                exact ⟨rfl, below_drewN hBz n⟩
end Go.Proofs.Ytgmebonhhbdofaa
