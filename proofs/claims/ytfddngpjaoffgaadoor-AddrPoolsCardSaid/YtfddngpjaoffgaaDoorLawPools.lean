/- The law AddrPools answers true. -/
import Derived.Test.YtfddngpjaoffgaaDoorAddrW
import Derived.Test.YtfddngpjaoffgaaDoorAddrE
import Derived.Test.YtfddngpjaoffgaaDoorRefI
import Derived.Test.YtfddngpjaoffgaaDoorRefQ
namespace Go.Proofs.YtfddngpjaoffgaaDoor
open Go.RowKit

theorem same_one (A B : Option Addr) (c d : Nat) (l : List (Nat × Nat)) (w : World) (hr : Rg w w.heap.size A l) (hs : Rg w w.heap.size B l) (hl : l.length ≤ 1000) :
    Calls Tryd.prog 15 #[.slice A l.length c, .slice B l.length d] w fun e w' => e = .returned (.bool true) ∧ ∃ n, w' = w.drewN n :=
  (same_any A B c d l l w hr hs hl hl).mono fun e w' ⟨he, hw⟩ => ⟨by rw [he]; simp, hw⟩

theorem Rg.drewN {w : World} {B : Nat} {A : Option Addr} {l : List (Nat × Nat)} (h : Rg w B A l) (n : Nat) : Rg (w.drewN n) B A l := h.keep fun _ _ => rfl

theorem pool_can {l ol : List (Nat × Nat)} {c : Int} (h : PoolRes l ol c) : Canon ol ∧ (addrsOf ol).length ≤ 256 := by
  by_cases hc : c = 0
  · subst hc
    obtain ⟨h1, h2, _⟩ := pool_ok h
    exact ⟨h1, h2⟩
  · rw [pool_bad h hc]
    exact ⟨Canon.nil, by simp [addrsOf]⟩

set_option maxRecDepth 100000 in
set_option maxHeartbeats 2000000 in
theorem law_pools (A : Option Addr) (c : Nat) (l : List (Nat × Nat)) (q : Int) (a : Nat) (w : World) (hr : Rg w w.heap.size A l) (hT : Tab w) (hlm : l.length ≤ 9223372036854775807) (hq : q ≤ 9223372036854775807) (ha : a < 4294967296) :
    Calls Tryd.prog 4 #[.slice A l.length c, .int .i64 q, .int .u32 a] w fun e w' => e = .returned (.bool true) ∧ Below w.heap.size w w' := by
  have HA := Lib.hid (awake_any w hT)
  have HR := Lib.hid hr
  clear hr hT
  by_cases h200 : 200 < l.length
  · go_enter Tryd.func4, Tryd.ntmps4
    go_wp2_with fail
    refine HA.out.mono ?_
    rintro e w1 ⟨rfl, hB1⟩
    go_wp2
    go_ret
    exact ⟨rfl, hB1⟩
  · have hd200 : decide ((200 : Int) < (l.length : Int)) = false := by simp; omega
    go_enter Tryd.func4, Tryd.ntmps4
    go_wp2_with fail
    refine HA.out.mono ?_
    rintro e w1 ⟨rfl, hB1⟩
    have HR1 := Lib.hid ((HR.out.below hB1).more hB1.size)
    have HP := Lib.hid (pool_any A c l w1 HR1.out (by omega))
    go_wp2_with fail
    refine HP.out.mono ?_
    rintro e w2 ⟨ol, code, p, cap, rfl, hres, hR2, hB2⟩
    dsimp only
    have HR2 := Lib.hid hR2
    have HE := Lib.hid hres
    have HRP := Lib.hid (rpool_any A c l w2 ((HR1.out.below hB2).more hB2.size) (by omega))
    clear hR2 hres
    go_wp2_with fail
    refine HRP.out.mono ?_
    rintro e w3 ⟨om, code2, p2, cap2, rfl, hres2, hR3, hB3⟩
    obtain ⟨rfl, rfl⟩ := res_agree HE.out hres2
    dsimp only
    have hol := pool_len HE.out
    obtain ⟨hcan, h256⟩ := pool_can HE.out
    have hreach : ol.length * 8 ≤ 140737488351232 := by omega
    have hl1000 : ol.length ≤ 1000 := by omega
    have htake : (addrsOf ol).take 257 = addrsOf ol := List.take_of_length_le (by omega)
    have HRA := Lib.hid ((HR2.out.below hB3).more hB3.size)
    have HRB := Lib.hid hR3
    have hBB : Below w.heap.size w w3 := by
      have h1 := hB1.size
      have h2 := hB2.size
      exact hB1.trans ((hB2.mono (by omega)).trans (hB3.mono (by omega)))
    have HS1 := Lib.hid (same_one p p2 cap cap2 ol w3 HRA.out HRB.out hl1000)
    have HAT := Lib.hid (fun (W : World) (hB : Below w3.heap.size w3 W) => at_any p cap ol q hreach W ((HRA.out.below hB).more hB.size))
    have HRT := Lib.hid (fun (W : World) (hB : Below w3.heap.size w3 W) => rat_any p2 cap2 ol q W ((HRB.out.below hB).more hB.size) hcan.val hl1000 h256 hq)
    have HCT := Lib.hid (fun (W : World) (hB : Below w3.heap.size w3 W) => count_any p cap ol hreach W ((HRA.out.below hB).more hB.size))
    have HRC := Lib.hid (fun (W : World) (hB : Below w3.heap.size w3 W) => rcount_any p2 cap2 ol W ((HRB.out.below hB).more hB.size) hcan.val hl1000 h256)
    have HIX := Lib.hid (fun (W : World) (hB : Below w3.heap.size w3 W) => index_any p cap ol a hreach W ((HRA.out.below hB).more hB.size))
    have HRI := Lib.hid (fun (W : World) (hB : Below w3.heap.size w3 W) => rindex_any p2 cap2 ol a W ((HRB.out.below hB).more hB.size) hcan.val hcan.sorted hl1000 h256 ha)
    rw [htake] at HAT HIX
    rw [show min 257 (addrsOf ol).length = (addrsOf ol).length by omega] at HCT
    clear hres2 hR3 hcan htake
    generalize atL (addrsOf ol) q = at1 at *
    generalize idxL (addrsOf ol) a = ix at *
    generalize (addrsOf ol).length = cn at *
    have hcc : (code != code) = false := by simp
    have hcc' : (code == code) = true := by simp
    have ha1 : ((at1.1 : Int) == (at1.1 : Int)) = true := by simp
    have ha2 : (at1.2 == at1.2) = true := by simp
    have hcn : ((cn : Int) == (cn : Int)) = true := by simp
    have hix : (ix == ix) = true := by simp
    go_wp2_with fail
    refine HS1.out.mono ?_
    rintro e w4 ⟨rfl, n4, rfl⟩
    have hB4 : Below w3.heap.size w3 (w3.drewN n4) := (Below.refl _ _).drewN' _
    generalize w3.drewN n4 = w4 at *
    dsimp only
    go_wp2_with fail
    refine (HAT.out w4 hB4).mono ?_
    rintro e w5 ⟨rfl, h5⟩
    have hB5 : Below w3.heap.size w3 w5 := hB4.trans (h5.mono hB4.size)
    dsimp only
    go_wp2_with fail
    refine (HRT.out w5 hB5).mono ?_
    rintro e w6 ⟨rfl, n6, rfl⟩
    have hB6 : Below w3.heap.size w3 (w5.drewN n6) := hB5.drewN' _
    generalize w5.drewN n6 = w6 at *
    dsimp only
    go_wp2_with fail
    refine (HCT.out w6 hB6).mono ?_
    rintro e w7 ⟨rfl, h7⟩
    have hB7 : Below w3.heap.size w3 w7 := hB6.trans (h7.mono hB6.size)
    dsimp only
    go_wp2_with fail
    refine (HRC.out w7 hB7).mono ?_
    rintro e w8 ⟨rfl, n8, rfl⟩
    have hB8 : Below w3.heap.size w3 (w7.drewN n8) := hB7.drewN' _
    generalize w7.drewN n8 = w8 at *
    dsimp only
    go_wp2_with fail
    refine (HIX.out w8 hB8).mono ?_
    rintro e w9 ⟨rfl, h9⟩
    have hB9 : Below w3.heap.size w3 w9 := hB8.trans (h9.mono hB8.size)
    dsimp only
    go_wp2_with fail
    refine (HRI.out w9 hB9).mono ?_
    rintro e w10 ⟨rfl, n10, rfl⟩
    dsimp only
    go_wp2
    go_ret
    exact ⟨rfl, hBB.trans ((hB9.drewN' _).mono hBB.size)⟩
end Go.Proofs.YtfddngpjaoffgaaDoor
