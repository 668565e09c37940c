/- The law AddrTexts answers true. -/
import Derived.Test.YtfddngpjaoffgaaDoorRefU
import Derived.Test.YtfddngpjaoffgaaDoorAddrW
namespace Go.Proofs.YtfddngpjaoffgaaDoor
open Go.RowKit

set_option maxRecDepth 100000 in
set_option maxHeartbeats 1000000 in
theorem law_texts (a : Nat) (ha : a < 4294967296) (s : ByteArray) (hs : s.size ≤ 140737488351232) (w : World) (hE : Env w) :
    Calls Tryd.prog 3 #[.int .u32 a, .string s] w fun e w' => e = .returned (.bool true) ∧ Below w.heap.size w w' := by
  have HE := Lib.hid (fun (W : World) (hb : Below w.heap.size w W) => hE.below hb (Nat.le_refl _))
  have HA := Lib.hid (awake_any w hE.tab)
  have heq : ((textS a).toList == (textS a).toList) = true := (toList_beq _ _).2 rfl
  clear hE
  go_enter Tryd.func3, Tryd.ntmps3
  go_wp2_with fail
  refine HA.out.mono ?_
  rintro e w1 ⟨rfl, hB1⟩
  have HP := Lib.hid (parse_any s hs w1 (HE.out w1 hB1))
  go_wp2_with fail
  refine HP.out.mono ?_
  rintro e w2 ⟨c, x, rfl, hres, hB2'⟩
  have hB2 := hB1.trans (hB2'.mono hB1.size)
  have HR := Lib.hid hres.parsed
  clear hres
  have HQ := Lib.hid (rparse_any s w2)
  go_wp2_with fail
  refine HQ.out.mono ?_
  rintro e w3 ⟨d, y, rfl, hres, hB3'⟩
  obtain ⟨rfl, rfl⟩ := HR.out.det hres
  clear hres
  have hB3 := hB2.trans (hB3'.mono hB2.size)
  have HT := Lib.hid (text_any a ha w3 (HE.out w3 hB3).tab)
  go_wp2_with fail
  refine HT.out.mono ?_
  rintro e w4 ⟨rfl, hB4'⟩
  have hB4 := hB3.trans (hB4'.mono hB3.size)
  have HU := Lib.hid (rtext_any a ha w4)
  go_wp2_with fail
  refine HU.out.mono ?_
  rintro e w5 ⟨rfl, hB5'⟩
  go_wp2
  go_ret
  exact ⟨by simp, hB4.trans (hB5'.mono hB4.size)⟩
end Go.Proofs.YtfddngpjaoffgaaDoor
