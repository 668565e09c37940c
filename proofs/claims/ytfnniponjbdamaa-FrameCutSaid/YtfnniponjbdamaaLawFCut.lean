/- The law FrameCut. -/
import Derived.Test.YtfnniponjbdamaaFrmX
import Derived.Lib.MinMax
namespace Go.Proofs.Ytfnniponjbdamaa
open Go.RowKit

set_option maxRecDepth 100000 in
set_option maxHeartbeats 2000000 in
theorem law_fcut_out (A A2 : Option Addr) (c c2 : Nat) (L : List SlV) (at_ : Int) (more : List UInt8) (w : World) (hout : 50 < L.length ∨ 500 < more.length ∨ at_ < 0) :
    Calls Try.prog 5 #[.slice A L.length c, .int .i64 at_, .slice A2 more.length c2] w fun e w' => e = .returned (.bool true) ∧ Below w.heap.size w w' := by
  have HA := Lib.hid (awake_any w)
  by_cases h1 : 50 < L.length
  · have d1 : decide ((50 : Int) < (L.length : Int)) = true := by simp; omega
    clear hout h1
    go_enter Try.func5, Try.ntmps5
    go_wp2_with fail
    refine HA.out.mono ?_
    rintro e w1 ⟨rfl, hB1⟩
    go_wp2
    go_ret
    exact ⟨rfl, hB1⟩
  · have d1 : decide ((50 : Int) < (L.length : Int)) = false := by simp; omega
    by_cases h2 : 500 < more.length
    · have d2 : decide ((500 : Int) < (more.length : Int)) = true := by simp; omega
      clear hout h1 h2
      go_enter Try.func5, Try.ntmps5
      go_wp2_with fail
      refine HA.out.mono ?_
      rintro e w1 ⟨rfl, hB1⟩
      go_wp2
      go_ret
      exact ⟨rfl, hB1⟩
    · have d2 : decide ((500 : Int) < (more.length : Int)) = false := by simp; omega
      have d3 : decide (at_ < 0) = true := by simp; omega
      clear hout h1 h2
      go_enter Try.func5, Try.ntmps5
      go_wp2_with fail
      refine HA.out.mono ?_
      rintro e w1 ⟨rfl, hB1⟩
      go_wp2
      go_ret
      exact ⟨rfl, hB1⟩

set_option maxRecDepth 100000 in
set_option maxHeartbeats 4000000 in
theorem law_fcut_in (A A2 : Option Addr) (c c2 : Nat) (L : List SlV) (a_ : Nat) (more : List UInt8) (w : World) (hr : Ls w w.heap.size A L) (hby : By w w.heap.size A2 more) (hL : L.length ≤ 50) (hm : more.length ≤ 500) (hcl : L.length ≤ c) :
    Calls Try.prog 5 #[.slice A L.length c, .int .i64 (a_ : Int), .slice A2 more.length c2] w fun e w' => e = .returned (.bool true) ∧ Below w.heap.size w w' := by
  have HA := Lib.hid (awake_any w)
  have HR := Lib.hid hr
  have HM := Lib.hid hby
  clear hr hby
  have d1 : decide ((50 : Int) < (L.length : Int)) = false := by simp; omega
  have d2 : decide ((500 : Int) < (more.length : Int)) = false := by simp; omega
  have d3 : decide ((a_ : Int) < 0) = false := by simp
  go_enter Try.func5, Try.ntmps5
  go_wp2_with fail
  refine HA.out.mono ?_
  rintro e w1 ⟨rfl, hB1⟩
  have H1 := Lib.hid (HR.out.later hB1)
  have HM1 := Lib.hid (HM.out.later hB1)
  have HB1 := Lib.hid hB1
  clear hB1
  have HZ := Lib.hid (RowI.zero w1)
  go_wp2
  go_loopw [8, 9, 10] (fun v8 v9 i wr => ∃ k, k ≤ L.length ∧ i = .int .i64 k ∧ Row w1 wr v8 (frs ((datas L).take k)) ∧ RowI w1 wr v9 (endsL (datas L) k) ∧ ∀ r ∈ (datas L).take k, GoodF r) (fun _ _ i _ => L.length - (intOf i).toNat)
  case atStart => exact ⟨0, Nat.zero_le _, rfl, (Row.none_ w1).later HZ.out.low, by rw [endsL_zero]; exact HZ.out, fun r hr => by simp at hr⟩
  case round =>
    obtain ⟨k, hk, rfl, hrow, hrowi, hgood⟩ := hrel
    have HROW := Lib.hid hrow
    have HRI := Lib.hid hrowi
    have HG := Lib.hid hgood
    clear hrow hrowi hgood
    by_cases hlt : k < L.length
    · obtain ⟨x, hx⟩ : ∃ x, L[k]? = some x := ⟨_, List.getElem?_eq_getElem hlt⟩
      obtain ⟨bk, o, rfl, hbk, hc0⟩ := H1.out.at_ k x hx
      have hcell : wr.cell? ⟨bk, o + k, none⟩ = some (.slice x.ad x.data.length x.cap) := (HROW.out.low.cell (p := ⟨bk, o + k, none⟩) hbk).trans hc0
      have hbyx : By wr wr.heap.size x.ad x.data := (H1.out.data x (List.mem_of_getElem? hx)).later HROW.out.low
      have HP := Lib.hid (put_any x.ad x.cap x.data wr hbyx)
      have HX := Lib.hid (datas_at hx)
      have i0 : (0 : Int) ≤ (k : Int) := by omega
      have i1 : (k : Int) < (L.length : Int) := by omega
      clear hc0 hbyx hx
      by_cases hgx : GoodF x.data
      · rw [putR_ok hgx] at HP
        have HGX := Lib.hid hgx
        have hfl : (frs ((datas L).take k)).length + (fr x.data).length ≤ 140737488355328 := by
          have h1 := tot_good HG.out
          rw [List.length_take, datas_length] at h1
          rw [frs_length, fr_length]
          have h2 := hgx.2
          have h3 : min k L.length ≤ 50 := by omega
          have h4 : min k L.length * 1003 ≤ 50 * 1003 := Nat.mul_le_mul_right _ h3
          omega
        have HFL := Lib.hid hfl
        have HEQ := Lib.hid (frs_take_snoc HX.out)
        have hel : (endsL (datas L) k).length ≤ 1048576 := by rw [endsL_length]; omega
        have HEL := Lib.hid hel
        clear hgx hfl hel
        go_wp2_with (first
          | (go_at_call 8; refine HP.out.mono ?_; rintro e w3 ⟨A3, c3, rfl, hby3, _, hB3⟩; have HB3 := Lib.hid hB3; have HBY3 := Lib.hid hby3; clear hB3 hby3)
          | (at_builtin; refine wpList_row rfl (.tmp 74) (.tmp 75) rfl rfl (HROW.out.later HB3.out) (fr x.data) rfl rfl HBY3.out HFL.out ?_; intro v4 w4 hr4 hg4; rw [← HEQ.out] at hr4; have HI4 := Lib.hid ((HRI.out.later HB3.out).bytes (HROW.out.later HB3.out) hg4 hr4.low); obtain ⟨Av, cv, rfl, _⟩ := hr4.form; have hr4 := Lib.hid hr4; clear hg4)
          | (at_builtin; refine wpList_rowI rfl (.tmp 77) (.tmp 80) rfl rfl HI4.out hr4.out (frs ((datas L).take (k + 1))).length rfl HEL.out ?_; intro v5 w5 hi5 hr5; rw [frs_length, ← endsL_succ] at hi5; have HI5 := Lib.hid hi5; have HR5 := Lib.hid hr5; clear hi5 hr5))
        go_roundw
        case rel => exact ⟨k + 1, by omega, by go_num, HR5.out, HI5.out, fun r hr => by
          rw [take_snoc_of _ _ _ HX.out] at hr
          rcases List.mem_append.1 hr with hr | hr
          · exact HG.out r hr
          · simp at hr; subst hr; exact HGX.out⟩
        case measure => simp [intOf]; omega
      · rw [putR_no hgx] at HP
        have HBK : Hid (bk < wr.heap.size) := Lib.hid (Nat.lt_of_lt_of_le hbk HROW.out.low.size)
        have HLOW := Lib.hid (HB1.out.trans (HROW.out.low.mono HB1.out.size))
        by_cases h0 : x.data.length < 1
        · have q1 : decide ((x.data.length : Int) < 1) = true := by simp; omega
          clear hgx h0
          go_wp2_with (go_at_call 8; refine HP.out.mono ?_; rintro e w3 ⟨A3, c3, rfl, hby3, _, hB3⟩; have hcell3 := (hB3.cell (p := ⟨bk, o + k, none⟩) HBK.out).trans hcell; have HB3 := Lib.hid hB3; clear hB3 hby3 hcell)
          go_ret
          exact ⟨by simp, HLOW.out.trans (HB3.out.mono HLOW.out.size)⟩
        · have q1 : decide ((x.data.length : Int) < 1) = false := by simp; omega
          have q2 : decide ((1000 : Int) < (x.data.length : Int)) = true := by
            have h2 : ¬ (1 ≤ x.data.length ∧ x.data.length ≤ 1000) := hgx
            simp; omega
          clear hgx h0
          go_wp2_with (go_at_call 8; refine HP.out.mono ?_; rintro e w3 ⟨A3, c3, rfl, hby3, _, hB3⟩; have hcell3 := (hB3.cell (p := ⟨bk, o + k, none⟩) HBK.out).trans hcell; have HB3 := Lib.hid hB3; clear hB3 hby3 hcell)
          go_ret
          exact ⟨by simp, HLOW.out.trans (HB3.out.mono HLOW.out.size)⟩
    · obtain rfl : k = L.length := by omega
      have htk : (datas L).take L.length = datas L := List.take_of_length_le (by rw [datas_length]; exact Nat.le_refl _)
      rw [htk] at HROW HG
      obtain ⟨A8, c8, rfl, hc8, hby8⟩ := HROW.out.form
      obtain ⟨g9, c9, rfl, hc9, hg9, hat9⟩ := HRI.out.form (by rw [endsL_length]; omega)
      have HA9 := Lib.hid hat9
      have HBY8 := Lib.hid hby8
      have HLOW := Lib.hid HROW.out.low
      have hn8 : (frs (datas L)).length ≤ 50150 := by
        have h1 := tot_good HG.out
        rw [datas_length] at h1
        rw [frs_length]
        have h4 : L.length * 1003 ≤ 50 * 1003 := Nat.mul_le_mul_right _ hL
        omega
      rw [endsL_length] at hc9 ⊢
      have HN8 : Hid ((frs (datas L)).length = tot (datas L)) := Lib.hid (frs_length _)
      clear htk hat9 hby8 HROW HRI
      obtain ⟨n8, hn8e⟩ : ∃ n8, n8 = (frs (datas L)).length := ⟨_, rfl⟩
      rw [← hn8e] at hn8 hc8 ⊢
      have HN8e := Lib.hid hn8e
      clear hn8e
      obtain ⟨cut, hcut⟩ : ∃ cut, cut = min a_ n8 := ⟨_, rfl⟩
      have ecut : min (a_ : Int) (n8 : Int) = (cut : Int) := by omega
      have hcn : cut ≤ n8 := by omega
      clear hcut
      go_wp2
      go_loopw [14, 15] (fun wh i V => ∃ m h : Nat, 1 ≤ m ∧ m ≤ L.length + 1 ∧ i = .int .i64 m ∧ wh = .int .i64 h ∧ Whole (datas L) cut m h ∧ V = wr) (fun _ i _ => L.length + 1 - (intOf i).toNat)
      case atStart => exact ⟨1, 0, Nat.le_refl _, by omega, rfl, rfl, Whole.start _ _, rfl⟩
      case round =>
        obtain ⟨m, h, hm1, hm2, rfl, rfl, hw, rfl⟩ := hrel
        have HW := Lib.hid hw
        have hhm := hw.1
        clear hw
        by_cases hlt : m < L.length + 1
        · have hcell9 := HA9.out m _ (endsL_at (datas L) L.length m (by omega))
          obtain ⟨t, ht⟩ : ∃ t, t = tot ((datas L).take m) := ⟨_, rfl⟩
          rw [← ht] at hcell9
          have HT := Lib.hid ht
          clear ht
          have i0 : (0 : Int) ≤ (m : Int) := by omega
          have i1 : (m : Int) < (L.length : Int) + 1 := by omega
          by_cases htc : t ≤ cut
          · have q1 : decide (t ≤ cut) = true := by simpa using htc
            have HN := Lib.hid (HW.out.yes (by rw [← HT.out]; exact htc))
            go_wp2
            go_roundw
            case rel => exact ⟨m + 1, m, by omega, by omega, by go_num, rfl, HN.out, trivial⟩
            case measure => simp [intOf]; omega
          · have q1 : decide (t ≤ cut) = false := by simpa using htc
            have HN := Lib.hid (HW.out.no (by rw [← HT.out]; omega))
            go_wp2
            go_roundw
            case rel => exact ⟨m + 1, h, by omega, by omega, by go_num, rfl, HN.out, trivial⟩
            case measure => simp [intOf]; omega
        · obtain rfl : m = L.length + 1 := by omega
          have HWL := Lib.hid (show Whole (datas L) cut ((datas L).length + 1) h by rw [datas_length]; exact HW.out)
          have hscan := HWL.out.scan HG.out
          have hhL : h ≤ L.length := by omega
          have hew := HW.out.2.1
          obtain ⟨e, he⟩ : ∃ e, e = tot ((datas L).take h) := ⟨_, rfl⟩
          rw [← he] at hew
          have hcell9 := HA9.out h _ (endsL_at (datas L) L.length h hhL)
          rw [← he] at hcell9
          have HE := Lib.hid he
          clear he HW
          have hhd := run_headB A8 n8 c8 (cut : Int) (by omega) (by omega)
          rw [Int.toNat_natCast] at hhd
          have hcl1 : ((frs (datas L)).take cut).length = cut := by rw [List.length_take, ← HN8e.out]; omega
          have HS1 := scan_any A8 c8 ((frs (datas L)).take cut) (by rw [hcl1]; omega) (by rw [hcl1]; omega) wr (HBY8.out.take cut)
          rw [hscan, hcl1, ← HE.out] at HS1
          have HS1 := Lib.hid HS1
          clear hscan hcl1
          go_wp2_with fail
          refine HS1.out.mono ?_
          rintro e' w2 ⟨A3, c3, L3, rfl, hd3, hls3, hc3, hB2⟩
          have HD3 := Lib.hid hd3
          have HLS3 := Lib.hid hls3
          have HBY2 := Lib.hid (HBY8.out.later hB2)
          have HR2 := Lib.hid ((H1.out.later HLOW.out).later hB2)
          have HM2 := Lib.hid ((HM1.out.later HLOW.out).later hB2)
          have HB2 := Lib.hid ((HB1.out.trans (HLOW.out.mono HB1.out.size)).trans (hB2.mono (Nat.le_trans HB1.out.size HLOW.out.size)))
          have hg92 : g9 < w2.heap.size := Nat.lt_of_lt_of_le hg9 hB2.size
          have hcell2 : w2.cell? ⟨g9, h, none⟩ = some (.int .i64 (e : Int)) := (hB2.cell (p := ⟨g9, h, none⟩) hg9).trans hcell9
          clear hd3 hls3 hB2 hcell9 hhd
          have HE0 : Hid (Row w2 (w2.alloc (.cells #[] 5)) (.slice (some ⟨w2.heap.size, 0, none⟩) 0 0) []) := Lib.hid (row_lit w2 [] (by simp))
          have hcellE : (w2.alloc (.cells #[] 5)).cell? ⟨g9, h, none⟩ = some (.int .i64 (e : Int)) := (HE0.out.low.cell (p := ⟨g9, h, none⟩) hg92).trans hcell2
          have hhe := run_headB A8 n8 c8 (e : Int) (by omega) (by omega)
          rw [Int.toNat_natCast] at hhe
          have hft : (frs (datas L)).take e = frs ((datas L).take h) := by rw [HE.out]; exact frs_take _ _
          have hbe := HBY2.out.take e
          rw [hft] at hbe
          have HBE := Lib.hid (hbe.below HE0.out.low)
          have hle : (frs ((datas L).take h)).length = e := by rw [frs_length, HE.out]
          have HLE := Lib.hid hle
          have HME := Lib.hid (HM2.out.below HE0.out.low)
          have hHS := run_headS A L.length c (h : Int) (by omega) (by omega)
          rw [Int.toNat_natCast] at hHS
          clear hft hbe hle
          go_wp2_with (first
            | (at_builtin; refine wpList_row rfl (.tmp 107) (.tmp 113) rfl rfl HE0.out (frs ((datas L).take h)) HLE.out rfl HBE.out (by have := HLE.out; simp; omega) ?_; intro v3 w3 hr3 hg3; have hr3 := Lib.hid hr3; clear hg3)
            | (at_builtin; refine wpList_row rfl (.tmp 114) (.tmp 115) rfl rfl hr3.out more rfl rfl (HM2.out.below hr3.out.low) (by have := HLE.out; simp; omega) ?_; intro v4 w4 hr4 hg4; obtain ⟨A4, c4, rfl, hc4, hby4⟩ := hr4.form; have hr4 := Lib.hid hr4; have HBY4 := Lib.hid hby4; clear hg4 hby4))
          have hgt : ∀ r ∈ (datas L).take h, GoodF r := fun r hr => HG.out r (List.mem_of_mem_take hr)
          have HS2 := scan_any A4 c4 ([] ++ frs ((datas L).take h) ++ more) (by have := HLE.out; simp; omega) hc4 w4 HBY4.out
          rw [List.nil_append, List.length_append, scan_frs _ _ hgt, tot_append, ← HE.out] at HS2
          have HS2 := Lib.hid HS2
          clear hgt hc4
          obtain ⟨p, hp⟩ : ∃ p, p = e + tot (scanL more) := ⟨_, rfl⟩
          rw [← hp] at HS2
          have hpe : e ≤ p := by omega
          clear hp
          refine HS2.out.mono ?_
          rintro e' w5 ⟨A5, c5, L5, rfl, hd5, hls5, hc5, hB5⟩
          have hB25 : Below w2.heap.size w2 w5 := hr4.out.low.trans (hB5.mono hr4.out.low.size)
          have hl5 : h ≤ L5.length := by
            have h1 := congrArg List.length hd5
            rw [datas_length, List.length_append, List.length_take, datas_length] at h1
            omega
          have hl3 : L3.length ≤ 1048576 := by
            have h1 := congrArg List.length HD3.out
            rw [datas_length, List.length_take, datas_length] at h1
            omega
          have htkl : (L.take h).length = h := by rw [List.length_take]; omega
          have htk5 : (L5.take h).length = h := by rw [List.length_take]; omega
          have hr5 := (HR2.out.later hB25).take h
          have hd5t : datas (L5.take h) = datas (L.take h) := by
            rw [datas_take, datas_take, hd5, List.take_append_of_le_length (by rw [List.length_take, datas_length]; omega), List.take_take, Nat.min_self]
          have HQ1 := same_any _ _ A3 A c3 c L3 (L.take h) w5 (HLS3.out.later hB25) hr5 hl3
          rw [HD3.out, datas_take, decide_eq_true rfl, htkl] at HQ1
          have HQ1 := Lib.hid HQ1
          have HQ2 := fun k => same_any _ _ A5 A c5 c (L5.take h) (L.take h) (w5.drewN k) ((hls5.drewN k).take h) (hr5.drewN k) (by rw [htk5]; omega)
          rw [hd5t] at HQ2
          simp only [htk5, htkl, decide_true] at HQ2
          have HQ2 := Lib.hid HQ2
          have hcell5 : w5.cell? ⟨g9, h, none⟩ = some (.int .i64 (e : Int)) := (hB25.cell (p := ⟨g9, h, none⟩) hg92).trans hcell2
          have HB5 := Lib.hid (HB2.out.trans (hB25.mono HB2.out.size))
          have hH5 := run_headS A5 L5.length c5 (h : Int) (by omega) (by omega)
          rw [Int.toNat_natCast] at hH5
          have q2 : decide (e ≤ p) = true := by simpa using hpe
          have q3 : decide (h ≤ L5.length) = true := by simpa using hl5
          clear hd5 hls5 hB5 hB25 hl3 htkl htk5 hr5 hd5t hcell2 hcellE hpe hl5
          go_wp2_with fail
          refine HQ1.out.mono ?_
          rintro e' w' ⟨rfl, m1, rfl⟩
          have HQ3 := Lib.hid (fun k => by have h1 := HQ2.out (m1 + k); rw [← World.drewN_drewN] at h1; exact h1)
          have hcell6 : (w5.drewN m1).cell? ⟨g9, h, none⟩ = some (.int .i64 (e : Int)) := hcell5
          have HB6 : Hid (Below w.heap.size w (w5.drewN m1)) := Lib.hid (HB5.out.trans ((below_drewN w5 m1).mono HB5.out.size))
          clear HQ1 HQ2 HB5 hcell5 HLS3
          generalize w5.drewN m1 = w6 at *
          go_wp2
          go_quiet ((go_at_call 12; exact Calls.quiet_of (HQ3.out _)))
          go_wp2
          go_ret
          exact ⟨by simp, HB6.out.trans ((below_drewN w6 nq).mono HB6.out.size)⟩

theorem law_fcut (A A2 : Option Addr) (c c2 : Nat) (L : List SlV) (at_ : Int) (more : List UInt8) (w : World) (hr : Ls w w.heap.size A L) (hby : By w w.heap.size A2 more) (hcl : L.length ≤ c) :
    Calls Try.prog 5 #[.slice A L.length c, .int .i64 at_, .slice A2 more.length c2] w fun e w' => e = .returned (.bool true) ∧ Below w.heap.size w w' := by
  by_cases hout : 50 < L.length ∨ 500 < more.length ∨ at_ < 0
  · exact law_fcut_out A A2 c c2 L at_ more w hout
  · obtain ⟨a, rfl⟩ := Int.eq_ofNat_of_zero_le (show 0 ≤ at_ by omega)
    exact law_fcut_in A A2 c c2 L a more w hr hby (by omega) (by omega) hcl
end Go.Proofs.Ytfnniponjbdamaa
