/- grant: awake. -/
import Derived.Test.YtcgfldfjadmpdaaGraB
namespace Go.Proofs.Ytcgfldfjadmpdaa
open Go.RowKit Go.Sort

/-- The two rules' boxes, as a caller of rules lays them. -/
def layR (w : World) (a b c : Int) : World := (w.alloc (r3box 25 a b c)).alloc (r3box 26 a b c)
theorem layR_eq (w : World) (a b c : Int) : layR w a b c = (w.alloc (r3box 25 a b c)).alloc (r3box 26 a b c) := rfl
theorem layR_G (w : World) (a b c : Int) : R3 25 (layR w a b c) w.heap.size a b c := (R3.new w _ a b c).alloc _
theorem layR_K (w : World) (a b c : Int) : R3 26 (layR w a b c) (w.heap.size + 1) a b c := by
  have h := R3.new (w.alloc (r3box 25 a b c)) 26 a b c
  rw [show (w.alloc (r3box 25 a b c)).heap.size = w.heap.size + 1 by simp] at h
  exact h
theorem layR_low (w : World) (a b c : Int) : Below w.heap.size w (layR w a b c) := ((Below.refl _ _).alloc (Nat.le_refl _) _).alloc (by simp) _

set_option maxRecDepth 100000 in
set_option maxHeartbeats 1000000 in
theorem gawake_any (w : World) : Calls Try.prog 8 #[] w fun e w' => e = .returned (.bool true) ∧ Below w.heap.size w w' := by
  have HR := Lib.hid (fun V => rules_any 0 10 2 V)
  have H1 := Lib.hid (fun V => until_any 0 10 2 5 100 0 V)
  have H2 := Lib.hid (fun V => until_any 0 10 2 5 100 50 V)
  have H3 := Lib.hid (fun V => until_any 0 10 2 5 3 50 V)
  have H4 := Lib.hid (fun V => may_any 0 10 2 1 5 0 zeroL V)
  rw [show untV 10 5 100 0 = 15 from rfl] at H1
  rw [show untV 10 5 100 50 = 60 from rfl] at H2
  rw [show untV 10 5 3 50 = 8 from rfl] at H3
  rw [show mayV 0 10 2 zeroL 1 5 0 = true from rfl] at H4
  go_enter Try.func8, Try.ntmps8
  go_wp2_with fail
  refine (HR.out _).mono ?_
  rintro e w1 ⟨rfl, hb1⟩
  have HB1 := Lib.hid hb1
  clear hb1
  go_upto_region 2 with fail
  rw [← layR_eq]
  have HG := Lib.hid (layR_G w1 0 10 2)
  have HB2 := Lib.hid (HB1.out.trans ((layR_low w1 0 10 2).mono HB1.out.size))
  obtain ⟨g, hg⟩ : ∃ g, g = w1.heap.size := ⟨_, rfl⟩
  rw [← hg] at HG ⊢
  generalize layR w1 0 10 2 = w2 at HG HB2 ⊢
  clear hg HB1
  obtain ⟨c0, c1, c2⟩ := HG.out.all
  go_wp2_with fail
  refine (H1.out _).mono ?_
  rintro e w3 ⟨rfl, hb3⟩
  have HG3 := Lib.hid (HG.out.later hb3)
  have HB3 := Lib.hid (HB2.out.trans (hb3.mono HB2.out.size))
  clear hb3 c0 c1 c2
  obtain ⟨c0, c1, c2⟩ := HG3.out.all
  go_wp2_with fail
  refine (H2.out _).mono ?_
  rintro e w4 ⟨rfl, hb4⟩
  have HG4 := Lib.hid (HG3.out.later hb4)
  have HB4 := Lib.hid (HB3.out.trans (hb4.mono HB3.out.size))
  clear hb4 c0 c1 c2
  obtain ⟨c0, c1, c2⟩ := HG4.out.all
  go_wp2_with fail
  refine (H3.out _).mono ?_
  rintro e w5 ⟨rfl, hb5⟩
  have HG5 := Lib.hid (HG4.out.later hb5)
  have HB5 := Lib.hid (HB4.out.trans (hb5.mono HB4.out.size))
  clear hb5 c0 c1 c2
  obtain ⟨c0, c1, c2⟩ := HG5.out.all
  go_wp2_with fail
  refine (H4.out _).mono ?_
  rintro e w6 ⟨rfl, hb6⟩
  have HB6 := Lib.hid (HB5.out.trans (hb6.mono HB5.out.size))
  clear hb6
  go_wp2
  go_ret
  exact ⟨rfl, HB6.out⟩
end Go.Proofs.Ytcgfldfjadmpdaa
