/- The law TableClients, over any table of the program's. -/
import Derived.Test.YtjkkdmfpekkfhaaTabA
namespace Go.Proofs.Ytjkkdmfpekkfhaa
open Go.RowKit Go.Sort

theorem long_not {l : List (Nat × Nat)} {ls : List LV} (h : longB l ls = false) : l.length ≤ 50 ∧ ls.length ≤ 200 := by
  unfold longB at h
  simp at h
  omega

set_option maxRecDepth 100000 in
set_option maxHeartbeats 4000000 in
theorem law_tclients {T : World → (Nat → Prop) → Nat → List LV → Prop} (K : TabK T) (A A2 : Option Addr) (c c2 : Nat) (l : List (Nat × Nat)) (ls : List LV) (s : ByteArray) (w : World) (hR : Rg w w.heap.size A l) (hE : El ElemL w w.heap.size A2 ls) (hl : l.length ≤ 9223372036854775807) (hls : ls.length ≤ 9223372036854775807) (ha : ∀ x ∈ ls, x.addr < 4294967296) :
    Calls Try.prog 4 #[.slice A l.length c, .slice A2 ls.length c2, .string s] w fun e w' => e = .returned (.bool true) ∧ Below w.heap.size w w' := by
  have HK := Lib.hid K
  have HR := Lib.hid hR
  have HE := Lib.hid hE
  have HA := Lib.hid ha
  have HAW := Lib.hid (tawake_any K w)
  clear K hR hE ha
  go_enter Try.func4, Try.ntmps4
  go_wp2_with fail
  refine HAW.out.mono ?_
  rintro e w1 ⟨rfl, hB1⟩
  have HB1 := Lib.hid hB1
  have HR1 := Lib.hid ((HR.out.below hB1).more hB1.size)
  have HE1 := Lib.hid (HE.out.later hB1)
  have HLO := Lib.hid (long_any A A2 c c2 l ls w1 w1.heap.size HE1.out hl hls)
  clear hB1
  go_wp2_with fail
  refine HLO.out.mono ?_
  rintro e w1' ⟨rfl, rfl⟩
  cases hlong : longB l ls
  rotate_left
  · clear hlong
    go_wp2
    go_ret
    exact ⟨rfl, HB1.out⟩
  obtain ⟨h50, h200⟩ := long_not hlong
  have HM := Lib.hid (made_any HK.out A A2 c c2 l ls w1 HR1.out (by omega) HE1.out h200 HA.out)
  clear hlong
  by_cases hs : (200 : Int) < (s.size : Int)
  · have hd : decide ((200 : Int) < (s.size : Int)) = true := decide_eq_true hs
    clear hs
    go_wp2
    go_ret
    exact ⟨rfl, HB1.out⟩
  have hd : decide ((200 : Int) < (s.size : Int)) = false := decide_eq_false hs
  clear hs
  go_wp2_with fail
  refine HM.out.mono ?_
  rintro e w2 (⟨ol, code, -, -, rfl, hB2⟩ | ⟨ol, P, g, gr, v, L, -, rfl, -, hT⟩)
  · go_wp2
    go_ret
    exact ⟨rfl, HB1.out.trans (hB2.mono HB1.out.size)⟩
  · have HT := Lib.hid hT
    have HB2 := Lib.hid (HB1.out.trans (hT.low.mono HB1.out.size))
    have HOF := Lib.hid (HK.out.of' s hT.t)
    clear hT
    go_wp2_with fail
    refine HOF.out.mono ?_
    rintro e w3 ⟨A3, c3, l3, rfl, HL3, hE3, hc3, hB3⟩
    have HT3 := Lib.hid (HT.out.later HK.out hB3)
    have HB3 := Lib.hid (HB2.out.trans (hB3.mono HB2.out.size))
    have HE3 := Lib.hid hE3
    have HRO := Lib.hid (rof_any s HT3.out.r (Nat.le_trans (HK.out.few HT3.out.t) (by omega)))
    have hl3 : l3.length ≤ 256 := by rw [HL3.out]; exact Nat.le_trans (List.length_filter_le _ _) (HK.out.few HT3.out.t)
    clear hE3 hB3
    go_wp2_with fail
    refine HRO.out.mono ?_
    rintro e w4 ⟨A4, c4, l4, rfl, HL4, hR4, hc4⟩
    have HB4 := Lib.hid (HB3.out.trans (hR4.low.mono HB3.out.size))
    obtain ⟨A5, c5, e5, _, hE4⟩ := hR4.form
    injection e5 with e5 _ e6
    subst e5 e6
    have HSM := Lib.hid (lsame_any w4.heap.size w4.heap.size A3 A4 c3 c4 l3 l4 w4 (HE3.out.later hR4.low) hE4 (by omega))
    rw [show decide (l3 = l4) = true from decide_eq_true (by rw [HL3.out, HL4.out])] at HSM
    clear hR4 hE4
    go_wp2_with fail
    refine HSM.out.mono ?_
    rintro e w5 ⟨rfl, n, rfl⟩
    go_wp2
    go_ret
    exact ⟨rfl, HB4.out.trans ((drewN_below w4 n).mono HB4.out.size)⟩
end Go.Proofs.Ytjkkdmfpekkfhaa
