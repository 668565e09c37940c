/- resolve: Take, of the code and of the document, of whatever is told; awake. -/
import Derived.Test.YtlbgkpkfjaggkaaResT
import Derived.Test.YtlbgkpkfjaggkaaResR
import Derived.Test.YtlbgkpkfjaggkaaResU
import Derived.Test.YtlbgkpkfjaggkaaTriM
namespace Go.Proofs.Ytlbgkpkfjaggkaa
open Go.RowKit Go.Sort

theorem take_any (l : LV) (m : MsgV) (s now g : Int) (w : World) : Calls Try.prog 9 #[l.v, m.v, .int .i64 s, .int .i64 now, .int .i64 g] w (GivesLB w (takeV l m s now g)) := by
  unfold takeV
  rcases tk_cases l m (pastV now l.unt 0) (recB s) (relB l m g) with ⟨hf, e⟩ | ⟨hf, hb, e⟩ | ⟨hf, hb, e⟩ | ⟨hf, hb, e⟩ | ⟨hf, hb, e⟩ | ⟨hf, hb, e⟩ <;> rw [e]
  · exact take_unfit l m s now g w hf
  · exact take_act l m s now g w hf hb
  · exact take_exp l m s now g w hf hb
  · exact take_rel l m s now g w hf hb
  · exact take_aba l m s now g w hf hb
  · rcases hb with hb | hb
    · exact take_fre l m s now g w hf hb
    · exact take_bak l m s now g w hf hb
theorem rtake_any (l : LV) (m : MsgV) (s now g : Int) (w : World) : Calls Try.prog 10 #[l.v, m.v, .int .i64 s, .int .i64 now, .int .i64 g] w (GivesLB w (takeV l m s now g)) := by
  unfold takeV
  rcases tk_cases l m (pastV now l.unt 0) (recB s) (relB l m g) with ⟨hf, e⟩ | ⟨hf, hb, e⟩ | ⟨hf, hb, e⟩ | ⟨hf, hb, e⟩ | ⟨hf, hb, e⟩ | ⟨hf, hb, e⟩ <;> rw [e]
  · exact rtake_unfit l m s now g w hf
  · exact rtake_act l m s now g w hf hb
  · exact rtake_exp l m s now g w hf hb
  · exact rtake_rel l m s now g w hf hb
  · exact rtake_aba l m s now g w hf hb
  · exact rtake_sha l m s now g w hf hb

def awM : MsgV := ⟨2, 0, 0, 0, 0, 1, 2, ⟨#[98]⟩, 9, 0, false⟩
def awL : LV := ⟨1, 0, [], 0, 0, 0, 0, 0⟩
def awO : LV := ⟨1, 2, [97], 7, 0, 0, 0, 0⟩
theorem aw_one : takeV awL awM 1 5 2 = (⟨1, 2, [98], 0, 0, 9, 0, 0⟩, true) := by decide +kernel
theorem aw_two : takeV awO awM 1 5 2 = (awO, false) := by decide +kernel

set_option maxRecDepth 100000 in
set_option maxHeartbeats 2000000 in
theorem reawake_any (w : World) : Calls Try.prog 8 #[] w fun e w' => e = .returned (.bool true) ∧ Below w.heap.size w w' := by
  have H1 := Lib.hid (fun V => take_any awL awM 1 5 2 V)
  have H2 := Lib.hid (fun V => take_any awO awM 1 5 2 V)
  rw [aw_one] at H1
  rw [aw_two] at H2
  obtain ⟨w0, hw0⟩ : ∃ w0, w0 = w.alloc (mbox awM) := ⟨_, rfl⟩
  have HM : Hid (MBox w0 w.heap.size awM) := Lib.hid (by rw [hw0]; exact MBox.new w awM)
  have HB : Hid (Below w.heap.size w w0) := Lib.hid (by rw [hw0]; exact (Below.refl _ _).alloc (Nat.le_refl _) _)
  have HW0 : Hid (w0 = w.alloc (.cells #[.int .i64 2, .int .i64 0, .int .i64 0, .int .i64 0, .int .i64 0, .int .u32 1, .int .i64 2, .string ⟨#[98]⟩, .int .i64 9, .int .i64 0, .bool false] 27)) := Lib.hid hw0
  clear hw0
  obtain ⟨m0, m1, m2, m3, m4, m5, m6, m7, m8, m9, m10⟩ := HM.out.all
  simp only [awM] at m0 m1 m2 m3 m4 m5 m6 m7 m8 m9 m10
  go_enter Try.func8, Try.ntmps8
  go_upto_region 2 with fail
  rw [← HW0.out]
  go_wp2_with fail
  refine (H1.out _).mono ?_
  rintro e w1 ⟨rfl, hb1⟩
  have HM1 := Lib.hid (HM.out.later hb1)
  have HB1 := Lib.hid (HB.out.trans (hb1.mono HB.out.size))
  clear hb1 m0 m1 m2 m3 m4 m5 m6 m7 m8 m9 m10
  obtain ⟨w2, hw2⟩ : ∃ w2, w2 = w1.alloc (lbox ⟨1, 2, [98], 0, 0, 9, 0, 0⟩) := ⟨_, rfl⟩
  have HX2 : Hid (LBox w2 w1.heap.size ⟨1, 2, [98], 0, 0, 9, 0, 0⟩) := Lib.hid (by rw [hw2]; exact LBox.new w1 _)
  have HM2 := Lib.hid (show MBox w2 w.heap.size awM by rw [hw2]; exact HM1.out.alloc _)
  have HB2 : Hid (Below w.heap.size w w2) := Lib.hid (by rw [hw2]; exact HB1.out.alloc HB1.out.size _)
  have HW2 : Hid (w2 = w1.alloc (.cells #[.int .u32 1, .int .i64 2, .string (LV.cb ⟨1, 2, [98], 0, 0, 9, 0, 0⟩), .int .i64 0, .int .i64 0, .int .i64 9, .int .i64 0, .int .i64 0] 25)) := Lib.hid hw2
  clear hw2
  go_upto_region 3 with fail
  rw [← HW2.out]
  generalize w1.heap.size = g1 at *
  clear HW2 HM HB HW0 HM1 HB1
  obtain ⟨m0, m1, m2, m3, m4, m5, m6, m7, m8, m9, m10⟩ := HM2.out.all
  simp only [awM] at m0 m1 m2 m3 m4 m5 m6 m7 m8 m9 m10
  go_wp2_with fail
  refine (H2.out _).mono ?_
  rintro e w3 ⟨rfl, hb3⟩
  have HX3 := Lib.hid (HX2.out.later hb3)
  have HB3 := Lib.hid (HB2.out.trans (hb3.mono HB2.out.size))
  clear hb3 m0 m1 m2 m3 m4 m5 m6 m7 m8 m9 m10
  obtain ⟨w4, hw4⟩ : ∃ w4, w4 = w3.alloc (lbox awO) := ⟨_, rfl⟩
  have HY4 : Hid (LBox w4 w3.heap.size awO) := Lib.hid (by rw [hw4]; exact LBox.new w3 _)
  have HX4 := Lib.hid (show LBox w4 g1 _ by rw [hw4]; exact HX3.out.alloc _)
  have HB4 : Hid (Below w.heap.size w w4) := Lib.hid (by rw [hw4]; exact HB3.out.alloc HB3.out.size _)
  have HW4 := Lib.hid hw4
  clear hw4
  go_upto_region 4 with fail
  rw [← HW4.out]
  generalize w3.heap.size = g3 at *
  obtain ⟨c0, c1, c2, c3, c4, c5, c6, c7⟩ := HX4.out.all
  obtain ⟨a0, a1, a2, a3, a4, a5, a6, a7⟩ := HY4.out.all
  simp only [awO, LV.cb] at c0 c1 c2 c3 c4 c5 c6 c7 a0 a1 a2 a3 a4 a5 a6 a7
  go_wp2
  go_ret
  exact ⟨rfl, HB4.out⟩
end Go.Proofs.Ytlbgkpkfjaggkaa
