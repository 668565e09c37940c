/- The law WalNil. -/
import Derived.Test.YtdeahiccgjldbaaWalW
namespace Go.Proofs.Ytdeahiccgjldbaa
open Go.RowKit

set_option maxRecDepth 100000 in
set_option maxHeartbeats 2000000 in
theorem law_nil (room : Int) (w : World) : Calls Try.prog 7 #[.int .i64 room] w fun e w' => e = .returned (.bool true) ∧ Below w.heap.size w w' := by
  have HA := Lib.hid (awake_any w)
  go_enter Try.func7, Try.ntmps7
  go_wp2_with fail
  refine HA.out.mono ?_
  rintro e w1 ⟨rfl, hb1⟩
  have HB1 := Lib.hid hb1
  have HO := Lib.hid (open_nil w1)
  have HN := Lib.hid (new_any w1 room)
  clear hb1 HA
  go_wp2_with fail
  refine HO.out.mono ?_
  rintro e w1' ⟨rfl, rfl⟩
  go_wp2_with fail
  refine HN.out.mono ?_
  rintro e w2 (⟨k, rfl, hk0, hk1, rfl, h2, hb2, hz2⟩ | ⟨h0, rfl, rfl⟩)
  · have HB2 := Lib.hid (HB1.out.trans (hb2.mono HB1.out.size))
    have HOp := Lib.hid (open_any h2 (ok_new hk0 hk1))
    rw [(Whl.new k 0 (-1)).open_] at HOp
    have H2 := Lib.hid h2
    have HLow := Lib.hid HB1.out.size
    have HK := Lib.hid (And.intro hk0 hk1)
    clear h2 hb2 hz2 hk0 hk1
    go_wp2_with fail
    refine HOp.out.mono ?_
    rintro e w3 ⟨hd3, (⟨_, L, rfl, hL⟩ | ⟨hx, _⟩)⟩
    · have HB3 := Lib.hid (HB2.out.trans (Did.low H2.out HLow.out hd3))
      obtain ⟨v3, h3, _, _⟩ := hd3
      have HLn := Lib.hid (len_any h3 (ok_new HK.out.1 HK.out.2) hL)
      have HZ := Lib.hid (Nat.le_of_lt h3.dlt)
      clear h3 hL
      go_wp2_with fail
      refine HLn.out.mono ?_
      rintro e w4 ⟨rfl, hb4⟩
      have HB4 := Lib.hid (HB3.out.trans (hb4.mono HB3.out.size))
      have hz : (scanL ([] : List UInt8)).length = 0 := rfl
      rw [hz]
      clear hb4 hz
      go_wp2
      go_ret
      exact ⟨rfl, HB4.out⟩
    · exact absurd rfl hx
  · go_wp2
    go_ret
    exact ⟨rfl, HB1.out⟩

end Go.Proofs.Ytdeahiccgjldbaa
