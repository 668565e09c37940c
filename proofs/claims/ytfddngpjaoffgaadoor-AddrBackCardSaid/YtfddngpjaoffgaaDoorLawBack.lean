/- The law AddrBack answers true. -/
import Derived.Test.YtfddngpjaoffgaaDoorAddrX
import Derived.Test.YtfddngpjaoffgaaDoorAddrW
namespace Go.Proofs.YtfddngpjaoffgaaDoor
open Go.RowKit

theorem textS_size (a : Nat) : (textS a).size ≤ 140737488351232 := by
  rw [Lib.size_eq]
  have := textL_length a
  show (textL a).length ≤ _
  omega

set_option maxRecDepth 100000 in
set_option maxHeartbeats 1000000 in
theorem law_back (a : Nat) (ha : a < 4294967296) (s : ByteArray) (hs : s.size ≤ 140737488351232) (w : World) (hE : Env w) :
    Calls Tryd.prog 5 #[.int .u32 a, .string s] w fun e w' => e = .returned (.bool true) ∧ Below w.heap.size w w' := by
  have HE := Lib.hid (fun (W : World) (hb : Below w.heap.size w W) => hE.below hb (Nat.le_refl _))
  have HA := Lib.hid (awake_any w hE.tab)
  clear hE
  go_enter Tryd.func5, Tryd.ntmps5
  go_wp2_with fail
  refine HA.out.mono ?_
  rintro e w1 ⟨rfl, hB1⟩
  have HT := Lib.hid (text_any a ha w1 (HE.out w1 hB1).tab)
  go_wp2_with fail
  refine HT.out.mono ?_
  rintro e w2 ⟨rfl, hB2'⟩
  have hB2 := hB1.trans (hB2'.mono hB1.size)
  have HP := Lib.hid (parse_any (textS a) (textS_size a) w2 (HE.out w2 hB2))
  go_wp2_with fail
  refine HP.out.mono ?_
  rintro e w3 ⟨c, code, rfl, hres, hB3'⟩
  obtain ⟨rfl, rfl⟩ := hres.parsed.of_text ha
  clear hres
  have hB3 := hB2.trans (hB3'.mono hB2.size)
  have HQ := Lib.hid (parse_any s hs w3 (HE.out w3 hB3))
  go_wp2_with fail
  refine HQ.out.mono ?_
  rintro e w4 ⟨d, x, rfl, hres, hB4'⟩
  have hB4 := hB3.trans (hB4'.mono hB3.size)
  have HR := Lib.hid hres.parsed
  clear hres
  rcases HR.out with ⟨h1, h2, rfl⟩ | ⟨-, rfl, rfl⟩
  · have HU := Lib.hid (text_any d h2 w4 (HE.out w4 hB4).tab)
    have heq : ((textS d).toList == s.toList) = true := (toList_beq _ _).2 h1
    clear h1
    go_wp2_with fail
    refine HU.out.mono ?_
    rintro e w5 ⟨rfl, hB5'⟩
    go_wp2
    go_ret
    exact ⟨by simp, hB4.trans (hB5'.mono hB4.size)⟩
  · go_wp2
    go_ret
    exact ⟨rfl, hB4⟩
end Go.Proofs.YtfddngpjaoffgaaDoor
