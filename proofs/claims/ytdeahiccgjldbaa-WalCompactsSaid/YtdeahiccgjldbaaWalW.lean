/- awake of layer 10's laws. -/
import Derived.Test.YtdeahiccgjldbaaWalU
namespace Go.Proofs.Ytdeahiccgjldbaa
open Go.RowKit

/-- What awake's disk holds, step by step. -/
def aw0 : DS := ⟨100, [], 0, -1⟩
def aw1 : DS := ⟨100, [0, 1, 1, 90], 0, -1⟩
def aw2 : DS := ⟨100, [0, 1, 1, 90], 4, -1⟩
def aw3 : DS := ⟨100, [0, 1, 1, 90, 0, 1, 2, 90], 4, -1⟩
def aw4 : DS := ⟨100, [0, 1, 1, 90, 0, 1], 6, -1⟩
def aw5 : DS := ⟨100, [0, 1, 1, 90], 4, -1⟩
theorem aw_ok : aw0.Ok ∧ aw1.Ok ∧ aw2.Ok ∧ aw3.Ok ∧ aw4.Ok ∧ aw5.Ok := by
  refine ⟨?_, ?_, ?_, ?_, ?_, ?_⟩ <;> exact ⟨by decide, by decide, by decide, by decide, by decide, by decide⟩
theorem aw_0 : openW aw0 = (0, aw0) := rfl
theorem aw_1 : appW aw0 [1] = (0, aw1) := rfl
theorem aw_2 : syncD aw1 = (0, aw2) := rfl
theorem aw_3 : appW aw2 [2] = (0, aw3) := rfl
theorem aw_4 : crashD aw3 2 = aw4 := rfl
theorem aw_5 : openW aw4 = (0, aw5) := rfl
theorem aw_6 : (scanL aw5.bs).length = 1 := by decide

theorem By.one (w : World) (n : Nat) (hn : n < 256) : By (w.alloc (.cells #[.int .u8 (n : Int)] 5)) (w.alloc (.cells #[.int .u8 (n : Int)] 5)).heap.size (some ⟨w.heap.size, 0, none⟩) [UInt8.ofNat n] := by
  rw [show (w.alloc (.cells #[.int .u8 (n : Int)] 5)).heap.size = w.heap.size + 1 from Array.size_push _]
  exact one_byte w 5 n hn

set_option maxRecDepth 100000 in
set_option maxHeartbeats 2000000 in
theorem awake_any (w : World) : Calls Try.prog 8 #[] w fun e w' => e = .returned (.bool true) ∧ Below w.heap.size w w' := by
  obtain ⟨D, hD⟩ : ∃ D, D = w.heap.size := ⟨_, rfl⟩
  obtain ⟨o0, o1, o2, o3, o4, o5⟩ := aw_ok
  have HN := Lib.hid (new_any w 100)
  rw [← hD]
  have HD := Lib.hid hD
  clear hD
  go_enter Try.func8, Try.ntmps8
  go_wp2_with fail
  refine HN.out.mono ?_
  rintro e w1 (⟨k, hk, _, _, rfl, h1, hb, hz⟩ | ⟨h0, _⟩)
  · obtain rfl : k = 100 := by omega
    rw [← HD.out] at h1 hb ⊢
    have H1 := Lib.hid h1
    have HB1 := Lib.hid hb
    have HO := Lib.hid (open_any h1 o0)
    clear h1 hb hz hk
    change Hid (Calls _ _ _ _ (Opens DT LT (D + 1) w1 D (.slice none 0 0) (openW aw0))) at HO
    rw [aw_0] at HO
    go_wp2_with fail
    refine HO.out.mono ?_
    rintro e w2 ⟨hd2, (⟨_, L, rfl, hL⟩ | ⟨hx, _⟩)⟩
    · have HB2 := Lib.hid (HB1.out.trans (Did.low H1.out (Nat.le_refl _) hd2))
      obtain ⟨v2, h2, _, _⟩ := hd2
      have H2 := Lib.hid h2
      have HL := Lib.hid hL
      have hlow2 : Below w2.heap.size w2 (w2.alloc (.cells #[.int .u8 1] 5)) := (Below.refl _ _).alloc (Nat.le_refl _) _
      have HA := Lib.hid (lappend_any (c := 1) (h2.below hlow2) o0 (hL.below hlow2) (By.one w2 1 (by omega)))
      have HLo2 : Hid (Below D w2 (w2.alloc (.cells #[.int .u8 1] 5))) := Lib.hid (hlow2.mono (Nat.le_of_lt h2.dlt))
      have HDl := Lib.hid (h2.below hlow2)
      have HLl := Lib.hid (hL.below hlow2)
      change Hid (Calls _ _ _ _ (Ans DT (D + 1) _ D v2 (appW aw0 [1]))) at HA
      rw [aw_1] at HA
      clear h2 hL hlow2
      go_wp2_with fail
      refine HA.out.mono ?_
      rintro e w3 ⟨rfl, hd3⟩
      have HB3 := Lib.hid (HB2.out.trans (HLo2.out.trans (Did.low HDl.out (Nat.le_refl _) hd3)))
      have hL3 := HLl.out.did HDl.out (by decide) (by decide) hd3
      obtain ⟨v3, h3, _, _⟩ := hd3
      have H3 := Lib.hid h3
      have L3 := Lib.hid hL3
      have c3 := hL3.cell
      have HS := Lib.hid (sync_any h3 o1)
      rw [aw_2] at HS
      clear h3 hL3
      go_wp2_with fail
      refine HS.out.mono ?_
      rintro e w4 ⟨rfl, hd4⟩
      have HB4 := Lib.hid (HB3.out.trans (Did.low H3.out (Nat.le_refl _) hd4))
      have hL4 := L3.out.did H3.out (by decide) (by decide) hd4
      obtain ⟨v4, h4, _, _⟩ := hd4
      have hlow4 : Below w4.heap.size w4 (w4.alloc (.cells #[.int .u8 2] 5)) := (Below.refl _ _).alloc (Nat.le_refl _) _
      have HA4 := Lib.hid (lappend_any (c := 1) (h4.below hlow4) o2 (hL4.below hlow4) (By.one w4 2 (by omega)))
      have HLo4 : Hid (Below D w4 (w4.alloc (.cells #[.int .u8 2] 5))) := Lib.hid (hlow4.mono (Nat.le_of_lt h4.dlt))
      have HDl4 := Lib.hid (h4.below hlow4)
      change Hid (Calls _ _ _ _ (Ans DT (D + 1) _ D v4 (appW aw2 [2]))) at HA4
      rw [aw_3] at HA4
      clear h4 hL4 hlow4 c3
      go_wp2_with fail
      refine HA4.out.mono ?_
      rintro e w5 ⟨rfl, hd5⟩
      have HB5 := Lib.hid (HB4.out.trans (HLo4.out.trans (Did.low HDl4.out (Nat.le_refl _) hd5)))
      obtain ⟨v5, h5, _, _⟩ := hd5
      have H5 := Lib.hid h5
      have HC := Lib.hid (crash_any h5 o3 2)
      rw [aw_4] at HC
      clear h5
      go_wp2_with fail
      refine HC.out.mono ?_
      rintro e w6 ⟨rfl, hd6⟩
      have HB6 := Lib.hid (HB5.out.trans (Did.low H5.out (Nat.le_refl _) hd6))
      obtain ⟨v6, h6, _, _⟩ := hd6
      have H6 := Lib.hid h6
      have HO6 := Lib.hid (open_any h6 o4)
      rw [aw_5] at HO6
      clear h6
      go_wp2_with fail
      refine HO6.out.mono ?_
      rintro e w7 ⟨hd7, (⟨_, L7, rfl, hL7⟩ | ⟨hx, _⟩)⟩
      · have HB7 := Lib.hid (HB6.out.trans (Did.low H6.out (Nat.le_refl _) hd7))
        obtain ⟨v7, h7, _, _⟩ := hd7
        have H7 := Lib.hid h7
        have HLn := Lib.hid (len_any h7 o5 hL7)
        rw [aw_6] at HLn
        clear h7 hL7
        go_wp2_with fail
        refine HLn.out.mono ?_
        rintro e w8 ⟨rfl, hb8⟩
        have HB8 := Lib.hid (HB7.out.trans (hb8.mono (Nat.le_of_lt H7.out.dlt)))
        have HRd := Lib.hid (read_any (H7.out.below hb8) o5)
        have HDl8 := Lib.hid (H7.out.below hb8)
        clear hb8
        go_wp2_with fail
        refine HRd.out.mono ?_
        intro e w9 hg
        obtain ⟨A9, c9, rfl, _, hrow⟩ := hg.row
        have HB9 := Lib.hid (HB8.out.trans (hrow.low.mono (Nat.le_of_lt HDl8.out.dlt)))
        have hlen : aw5.bs.length = 4 := rfl
        rw [hlen]
        clear hrow hg hlen
        go_wp2
        go_ret
        exact ⟨rfl, HB9.out⟩
      · exact absurd rfl hx
    · exact absurd rfl hx
  · exact absurd ⟨by decide, by decide⟩ h0

end Go.Proofs.Ytdeahiccgjldbaa
