/- The law PacketDecodes. -/
import Derived.Test.YtmlckjccgdmknaaRefPD
import Derived.Test.YtmlckjccgdmknaaPktS
import Derived.Test.YtmlckjccgdmknaaPktW
namespace Go.Proofs.Ytmlckjccgdmknaa
open Go.RowKit Go.Sort

set_option maxRecDepth 100000 in
set_option maxHeartbeats 1000000 in
theorem law_pdecodes (A : Option Addr) (c : Nat) (b : List UInt8) (w : World) (h : By w w.heap.size A b) (hcap : b.length ≤ c) (hlm : b.length ≤ 9223372036854775807) :
    Calls Try.prog 4 #[.slice A b.length c] w fun e w' => e = .returned (.bool true) ∧ Below w.heap.size w w' := by
  have HA := Lib.hid (awake_any w)
  have H := Lib.hid h
  clear h
  by_cases hbig : 3000 < b.length
  · go_enter Try.func4, Try.ntmps4
    go_wp2_with fail
    refine HA.out.mono ?_
    rintro e w1 ⟨rfl, hB1⟩
    go_wp2
    go_ret
    exact ⟨rfl, hB1⟩
  · have hd : decide ((3000 : Int) < (b.length : Int)) = false := by simp; omega
    go_enter Try.func4, Try.ntmps4
    go_wp2_with fail
    refine HA.out.mono ?_
    rintro e w1 ⟨rfl, hB1⟩
    have H1 := Lib.hid (H.out.later hB1)
    have HB1 := Lib.hid hB1
    clear hB1
    go_wp2_with fail
    refine (pdecode_any A c b w1 H1.out hcap (by omega)).mono ?_
    rintro e w2 ⟨q, rfl, hab, hpk, hR, hL, hw16, hB2⟩
    obtain ⟨v2, hv2⟩ : ∃ v2, v2 = w2.alloc (pbox q) := ⟨_, rfl⟩
    have hBv : Below w2.heap.size w2 v2 := by rw [hv2]; exact (Below.refl _ _).alloc (Nat.le_refl _) _
    have HX2 : Hid (PBox v2 w2.heap.size q) := Lib.hid (by rw [hv2]; exact PBox.new w2 q)
    have HK2 := Lib.hid (hpk.later hBv)
    have H2 := Lib.hid ((H1.out.later hB2).later hBv)
    have HB2 := Lib.hid ((HB1.out.trans (hB2.mono HB1.out.size)).trans (hBv.mono (Nat.le_trans HB1.out.size hB2.size)))
    have HAB := Lib.hid hab
    have HV2 := Lib.hid hv2
    obtain ⟨ec, hec⟩ : ∃ ec, ec = (decP b).2 := ⟨_, rfl⟩
    rw [← hec]
    have HEC := Lib.hid hec
    clear hab hpk hR hB2 hBv hv2 hec
    go_upto_region 5 with fail
    change Code.wp _ _ _ _ (w2.alloc (pbox q))
    rw [← HV2.out]
    go_wp2_with fail
    refine (rpdecode_any A c b v2 H2.out hcap (by omega)).mono ?_
    rintro e w3 ⟨q', rfl, hab', hpk', hR', hL', hw16', hB3⟩
    obtain ⟨v3, hv3⟩ : ∃ v3, v3 = w3.alloc (pbox q') := ⟨_, rfl⟩
    have hBv : Below w3.heap.size w3 v3 := by rw [hv3]; exact (Below.refl _ _).alloc (Nat.le_refl _) _
    have hX2 := (HX2.out.later hB3).later hBv
    have hX3 : PBox v3 w3.heap.size q' := by rw [hv3]; exact PBox.new w3 q'
    have HK3 := Lib.hid ((HK2.out.later hB3).later hBv)
    have HK3' := Lib.hid (hpk'.later hBv)
    have HB3 := Lib.hid ((HB2.out.trans (hB3.mono HB2.out.size)).trans (hBv.mono (Nat.le_trans HB2.out.size hB3.size)))
    have HS := Lib.hid (psame_true q q' (HAB.out.trans hab'.symm) v3 HK3.out HK3'.out (by omega))
    obtain ⟨c0, c1, c2, c3, c4, c5, c6, c7, c8, c9⟩ := hX2.all
    obtain ⟨d0, d1, d2, d3, d4, d5, d6, d7, d8, d9⟩ := hX3.all
    have HV3 := Lib.hid hv3
    rw [← HEC.out]
    clear hab' hpk' hR' hB3 hBv hX2 hX3 hv3
    have hself : (ec == ec) = true := by simp
    go_upto_region 6 with fail
    change Code.wp _ _ _ _ (w3.alloc (pbox q'))
    rw [← HV3.out]
    go_wp2_with fail
    refine HS.out.mono ?_
    rintro e w4 ⟨rfl, hB4⟩
    go_wp2
    go_ret
    exact ⟨by simp, HB3.out.trans (hB4.mono HB3.out.size)⟩
end Go.Proofs.Ytmlckjccgdmknaa
