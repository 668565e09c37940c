/- The law LeaseDecodes. -/
import Derived.Test.YtdjbgphcmmcnhaaLeaW
import Derived.Test.YtdjbgphcmmcnhaaLeaU
namespace Go.Proofs.Ytdjbgphcmmcnhaa
open Go.RowKit Go.Sort
attribute [local go_sem ↓] run_eqlL run_neqL run_guardL

set_option maxRecDepth 100000 in
set_option maxHeartbeats 2000000 in
theorem law_ldecodes (A : Option Addr) (c : Nat) (b : List UInt8) (w : World) (hb : By w w.heap.size A b) (hbc : b.length ≤ c) (hbl : b.length ≤ 9223372036854775807) :
    Calls Try.prog 4 #[.slice A b.length c] w fun e w' => e = .returned (.bool true) ∧ Below w.heap.size w w' := by
  by_cases hbig : 1000 < b.length
  · have hd : decide ((1000 : Int) < (b.length : Int)) = true := by simp; omega
    go_enter Try.func4, Try.ntmps4
    go_wp2_with fail
    refine (awake_any _).mono ?_
    rintro e w1 ⟨rfl, hB1⟩
    go_wp2
    go_ret
    exact ⟨rfl, hB1⟩
  · have hd : decide ((1000 : Int) < (b.length : Int)) = false := by simp; omega
    obtain ⟨r, hr⟩ : ∃ r, r = decL b := ⟨_, rfl⟩
    have HE : Hid (∀ W, By W W.heap.size A b → Calls Try.prog 14 #[.slice A b.length c] W (GivesL W r)) := Lib.hid (fun W h => by rw [hr]; exact decode_any A c b W h hbc (by omega))
    have HF : Hid (∀ W, By W W.heap.size A b → Calls Try.prog 15 #[.slice A b.length c] W (GivesL W r)) := Lib.hid (fun W h => by rw [hr]; exact rdecode_any A c b W h hbc (by omega))
    have hself : eqL (r.1.addr : Int) r.1.bind r.1.cb r.1.unt r.1.acked r.1.told r.1.at_ r.1.ver (r.1.addr : Int) r.1.bind r.1.cb r.1.unt r.1.acked r.1.told r.1.at_ r.1.ver = true := by rw [eqL_of]; simp
    have hself2 : (r.2 == r.2) = true := by simp
    have HB := Lib.hid hb
    clear hr hb
    go_enter Try.func4, Try.ntmps4
    go_wp2_with fail
    refine (awake_any _).mono ?_
    rintro e w1 ⟨rfl, hB1⟩
    have HB1 := Lib.hid hB1
    have HY1 := Lib.hid (HB.out.later hB1)
    clear hB1
    go_wp2_with fail
    refine (HE.out _ HY1.out).mono ?_
    rintro e w2 ⟨rfl, hB2⟩
    obtain ⟨w3, hw3⟩ : ∃ w3, w3 = w2.alloc (lbox r.1) := ⟨_, rfl⟩
    have hB3 : Below w2.heap.size w2 w3 := by rw [hw3]; exact (Below.refl _ _).alloc (Nat.le_refl _) _
    have HM3 : Hid (LBox w3 w2.heap.size r.1) := Lib.hid (by rw [hw3]; exact LBox.new w2 r.1)
    have HB2 := Lib.hid (HB1.out.trans (hB2.mono HB1.out.size))
    have HB3 := Lib.hid (HB2.out.trans (hB3.mono HB2.out.size))
    have HY3 := Lib.hid ((HY1.out.later hB2).later hB3)
    have HW3 := Lib.hid hw3
    clear hB2 hB3 hw3
    go_wp2_with fail
    rw [← HW3.out]
    refine (HF.out _ HY3.out).mono ?_
    rintro e w4 ⟨rfl, hB4⟩
    obtain ⟨w5, hw5⟩ : ∃ w5, w5 = w4.alloc (lbox r.1) := ⟨_, rfl⟩
    have hB5 : Below w4.heap.size w4 w5 := by rw [hw5]; exact (Below.refl _ _).alloc (Nat.le_refl _) _
    have HN5 : Hid (LBox w5 w4.heap.size r.1) := Lib.hid (by rw [hw5]; exact LBox.new w4 r.1)
    have HM5 := Lib.hid ((HM3.out.later hB4).later hB5)
    have HB4 := Lib.hid (HB3.out.trans (hB4.mono HB3.out.size))
    have HB5 := Lib.hid (HB4.out.trans (hB5.mono HB4.out.size))
    have HW5 := Lib.hid hw5
    clear hB4 hB5 hw5
    go_upto_region 6 with fail
    rw [← HW5.out]
    obtain ⟨c0, c1, c2, c3, c4, c5, c6, c7⟩ := HM5.out.all
    obtain ⟨d0, d1, d2, d3, d4, d5, d6, d7⟩ := HN5.out.all
    go_wp2
    go_ret
    exact ⟨by simp, HB5.out⟩
end Go.Proofs.Ytdjbgphcmmcnhaa
