/- The law FrameBack. -/
import Derived.Test.YtfnniponjbdamaaLawFSca
namespace Go.Proofs.Ytfnniponjbdamaa
open Go.RowKit

theorem Row.none_ (w : World) : Row w w (.slice none 0 0) [] := ⟨⟨rfl, .inl ⟨rfl, rfl⟩⟩, Below.refl _ _⟩
theorem frs_take_snoc {L : List (List UInt8)} {k : Nat} {r : List UInt8} (h : L[k]? = some r) : frs (L.take (k + 1)) = frs (L.take k) ++ fr r := by
  rw [take_snoc_of _ _ _ h, frs_snoc]
theorem tot_take_le (L : List (List UInt8)) (k : Nat) : tot (L.take k) ≤ tot L := by
  have h := congrArg tot (List.take_append_drop k L)
  rw [tot_append] at h
  omega

theorem scan_take (b : List UInt8) : b.take (tot (scanL b)) = frs (scanL b) := by
  have h := (scan_back b).2.1
  have h2 : (frs (scanL b) ++ b.drop (tot (scanL b))).take (tot (scanL b)) = frs (scanL b) := List.take_left' (frs_length _)
  rw [← h] at h2
  exact h2

set_option maxRecDepth 100000 in
set_option maxHeartbeats 3000000 in
theorem law_fback (A : Option Addr) (c : Nat) (b : List UInt8) (w : World) (h : By w w.heap.size A b) (hcap : b.length ≤ c) :
    Calls Try.prog 6 #[.slice A b.length c] w fun e w' => e = .returned (.bool true) ∧ Below w.heap.size w w' := by
  have HA := Lib.hid (awake_any w)
  have HR := Lib.hid h
  clear h
  by_cases hbig : (5000 : Int) < (b.length : Int)
  · have hd : decide ((5000 : Int) < (b.length : Int)) = true := by simpa using hbig
    clear hbig
    go_enter Try.func6, Try.ntmps6
    go_wp2_with fail
    refine HA.out.mono ?_
    rintro e w1 ⟨rfl, hB1⟩
    go_wp2
    go_ret
    exact ⟨rfl, hB1⟩
  · have hd : decide ((5000 : Int) < (b.length : Int)) = false := by simpa using hbig
    have hb : b.length ≤ 5000 := by omega
    clear hbig
    obtain ⟨hgood, hback, hrest⟩ := scan_back b
    have htn : tot (scanL b) ≤ b.length := by have h2 := congrArg List.length hback; rw [List.length_append, frs_length] at h2; omega
    have htake := scan_take b
    have hsl := scan_len b
    have HG := Lib.hid hgood
    have HT := Lib.hid htake
    have HRS := Lib.hid hrest
    clear hgood hback htake hrest
    go_enter Try.func6, Try.ntmps6
    go_wp2_with fail
    refine HA.out.mono ?_
    rintro e w1 ⟨rfl, hB1⟩
    have H1 := Lib.hid (HR.out.later hB1)
    have HB1 := Lib.hid hB1
    clear hB1
    go_wp2_with fail
    refine (scan_any A c b (by omega) hcap w1 H1.out).mono ?_
    rintro e w2 ⟨A2, c2, L2, rfl, hL2, hls2, _, hB2⟩
    have H2 := Lib.hid (H1.out.later hB2)
    have HB2 := Lib.hid (HB1.out.trans (hB2.mono HB1.out.size))
    have hll2 : L2.length ≤ 5000 := by have := congrArg List.length hL2; rw [datas_length] at this; omega
    have HL2 := Lib.hid hL2
    have HLS := Lib.hid hls2
    clear hB2 hL2 hls2
    obtain ⟨n, hn⟩ : ∃ n, n = tot (scanL b) := ⟨_, rfl⟩
    rw [← hn] at htn
    have HN := Lib.hid hn
    rw [← hn]
    clear hn
    have d1 : decide ((n : Int) < 0) = false := by simp
    have d2 : decide (b.length < n) = false := by simp; omega
    go_wp2
    go_loopw [6, 7] (fun v i wr => ∃ k, k ≤ L2.length ∧ i = .int .i64 k ∧ Row w2 wr v (frs ((datas L2).take k))) (fun _ i _ => L2.length - (intOf i).toNat)
    case atStart => exact ⟨0, Nat.zero_le _, rfl, Row.none_ w2⟩
    case round =>
      obtain ⟨k, hk, rfl, hrow⟩ := hrel
      have HROW := Lib.hid hrow
      clear hrow
      by_cases hlt : k < L2.length
      · obtain ⟨x, hx⟩ : ∃ x, L2[k]? = some x := ⟨_, List.getElem?_eq_getElem hlt⟩
        obtain ⟨bk, o, rfl, hbk, hc0⟩ := HLS.out.at_ k x hx
        have hcell : wr.cell? ⟨bk, o + k, none⟩ = some (.slice x.ad x.data.length x.cap) := (HROW.out.low.cell (p := ⟨bk, o + k, none⟩) hbk).trans hc0
        have hby : By wr wr.heap.size x.ad x.data := (HLS.out.data x (List.mem_of_getElem? hx)).later HROW.out.low
        have hgx : GoodF x.data := HG.out x.data (by rw [← HL2.out]; exact List.mem_of_getElem? (datas_at hx))
        have HP := Lib.hid (put_any x.ad x.cap x.data wr hby)
        rw [putR_ok hgx] at HP
        have HX := Lib.hid (frs_take_snoc (datas_at hx))
        have hfl : (frs ((datas L2).take k)).length + (fr x.data).length ≤ 140737488355328 := by
          have h1 := congrArg List.length HX.out
          rw [List.length_append, frs_length] at h1
          have h2 := tot_take_le (datas L2) (k + 1)
          rw [HL2.out] at h1 h2
          rw [HL2.out]
          have h3 := HN.out
          omega
        have HFL := Lib.hid hfl
        have i0 : (0 : Int) ≤ (k : Int) := by omega
        have i1 : (k : Int) < (L2.length : Int) := by omega
        clear hc0 hby hgx hfl hx
        go_wp2_with (first
          | (go_at_call 8; refine HP.out.mono ?_; rintro e w3 ⟨A3, c3, rfl, hby3, _, hB3⟩; have HB3 := Lib.hid hB3; have HBY3 := Lib.hid hby3; clear hB3 hby3)
          | (at_builtin; refine wpList_row rfl (.tmp 50) (.tmp 51) rfl rfl (HROW.out.later HB3.out) (fr x.data) rfl rfl HBY3.out HFL.out ?_; intro v4 w4 hr4 hg4; have hr4 := Lib.hid hr4; clear hg4))
        go_roundw
        case rel => exact ⟨k + 1, by omega, by go_num, by rw [HX.out]; exact hr4.out⟩
        case measure => simp [intOf]; omega
      · obtain rfl : k = L2.length := by omega
        obtain ⟨Av, cv, rfl, hcv, hbyv⟩ := HROW.out.form
        have htk : frs ((datas L2).take L2.length) = b.take n := by
          rw [List.take_of_length_le (by rw [datas_length]; exact Nat.le_refl _), HL2.out, HN.out, HT.out]
        rw [htk] at hbyv hcv ⊢
        have hbL := H2.out.later HROW.out.low
        have htl := run_tailB A b.length c (n : Int) (by omega) (by omega)
        have hbyt : By wr wr.heap.size (if c = (n : Int).toNat then A else A.map (·.add (n : Int).toNat)) (b.drop n) := hbL.cut htn hcap
        have hlk : (b.drop n).length = b.length - (n : Int).toNat := by rw [List.length_drop]; omega
        have HS := scan_any _ (c - (n : Int).toNat) (b.drop n) (by rw [hlk]; omega) (by rw [hlk]; omega) wr hbyt
        have hrs : scanL (b.drop n) = [] := by rw [HN.out]; exact HRS.out
        rw [hlk, hrs, tot_nil] at HS
        have HS := Lib.hid HS
        have hhd := run_headB A b.length c (n : Int) (by omega) (by omega)
        rw [Int.toNat_natCast] at hhd
        have HBL := Lib.hid (hbL.take n)
        have HBV := Lib.hid hbyv
        have HLOW := Lib.hid (HB2.out.trans (HROW.out.low.mono HB2.out.size))
        have htl2 : (b.take n).length = n := by rw [List.length_take]; omega
        have HTL := Lib.hid htl2
        clear hbyt hbL hbyv htl2 htk HROW hrs
        generalize b.take n = t at *
        generalize (if c = (n : Int).toNat then A else A.map (·.add (n : Int).toNat)) = A1 at *
        generalize b.length - (n : Int).toNat = z1 at *
        generalize c - (n : Int).toNat = z2 at *
        go_wp2_with fail
        refine HS.out.mono ?_
        rintro e w5 ⟨A5, c5, L5, rfl, hL5, _, _, hB5⟩
        have hl5 : L5.length = 0 := by have := congrArg List.length hL5; rw [datas_length] at this; exact this
        rw [hl5]
        have hs1 : ∀ m, (convert 22 9 (.slice Av t.length cv)).run Try.prog (w5.drewN m) = .ok (.string ⟨t.toArray⟩) (w5.drewN m) := fun m => str_run cv ((HBV.out.later hB5).drewN m)
        have hs2 : ∀ m, (convert 22 9 (.slice A n c)).run Try.prog (w5.drewN m) = .ok (.string ⟨t.toArray⟩) (w5.drewN m) := fun m => by
          have h3 := str_run c ((HBL.out.later hB5).drewN m)
          rw [HTL.out] at h3
          exact h3
        have HB5 := Lib.hid (HLOW.out.trans (hB5.mono HLOW.out.size))
        clear hL5 hl5 hB5
        go_wp2
        go_quiet (fail)
        go_wp2
        go_ret
        exact ⟨by simp, HB5.out.trans ((below_drewN w5 nq).mono HB5.out.size)⟩
end Go.Proofs.Ytfnniponjbdamaa
