/- grant: over, May; the document's May. -/
import Derived.Test.YtcgfldfjadmpdaaGraA
import Derived.Test.YtcgfldfjadmpdaaFsmA
namespace Go.Proofs.Ytcgfldfjadmpdaa
open Go.RowKit Go.Sort

theorem pastV_max (n x y g : Int) : pastV n (max (moV x) (moV y)) g = pastV n (max x y) g := by
  have : moV (max (moV x) (moV y)) = moV (max x y) := by unfold moV limV; omega
  unfold pastV
  rw [this]
theorem aftV_max (x y : Int) : addV (max x 0) (max y 0) = aftV x y := by
  unfold aftV
  have : moV (max x 0) = moV x := by unfold moV limV; omega
  unfold addV
  rw [this]
/-- Is all over that may have been promised? -/
def ovrB (m : LV) (b c now entry : Int) : Bool := pastV now (max entry (overL m)) (aftV b c)
theorem latest_two_n {X : World} {b : Nat} (hb : X.heap.size = b) (x y : Int) :
    Calls Try.prog 19 #[.slice (some ⟨b, 0, none⟩) 2 2] (X.alloc (.cells #[.int .i64 x, .int .i64 y] 3)) fun e w' => e = .returned (.int .i64 (max (moV x) (moV y))) ∧ Below X.heap.size X w' :=
  (latest_two hb x y).mono fun _ _ ⟨h, e⟩ => ⟨h, e ▸ (Below.refl _ _).alloc (Nat.le_refl _) _⟩

set_option maxRecDepth 100000 in
set_option maxHeartbeats 1000000 in
theorem over_b (a b c now entry : Int) (m : LV) (w : World) : Calls Try.prog 23 #[r3v a b c, m.v, .int .i64 now, .int .i64 entry] w fun e w' => e = .returned (.bool (ovrB m b c now entry)) ∧ Below w.heap.size w w' := by
  have H1 := Lib.hid (fun V => after_any b c V)
  have H2 := Lib.hid (fun V => over_any m V)
  have H3 := Lib.hid (fun (V : World) b (h : V.heap.size = b) => latest_two_n h entry (overL m))
  have H4 := Lib.hid (fun V => past_any now (max (moV entry) (moV (overL m))) (aftV b c) V)
  rw [pastV_max] at H4
  unfold ovrB
  generalize pastV now (max entry (overL m)) (aftV b c) = z at *
  generalize max (moV entry) (moV (overL m)) = y at *
  generalize overL m = k at *
  generalize aftV b c = x at *
  obtain ⟨w0, hw0⟩ : ∃ w0, w0 = (w.alloc (r3box 25 a b c)).alloc (lbox m) := ⟨_, rfl⟩
  have HR : Hid (R3 25 w0 w.heap.size a b c) := Lib.hid (by rw [hw0]; exact (R3.new w _ a b c).alloc _)
  have HL : Hid (LBox w0 (w.heap.size + 1) m) := Lib.hid (by rw [hw0]; have h := LBox.new (w.alloc (r3box 25 a b c)) m; rw [show (w.alloc (r3box 25 a b c)).heap.size = w.heap.size + 1 by simp] at h; exact h)
  have HB : Hid (Below w.heap.size w w0) := Lib.hid (by rw [hw0]; exact ((Below.refl _ _).alloc (Nat.le_refl _) _).alloc (by simp) _)
  have HW0 := Lib.hid hw0
  clear hw0
  obtain ⟨c0, c1, c2⟩ := HR.out.all
  obtain ⟨l0, l1, l2, l3, l4, l5, l6, l7⟩ := HL.out.all
  go_enter Try.func23, Try.ntmps23
  go_upto_region 1 with fail
  rw [← HW0.out]
  go_wp2_with fail
  refine (H1.out _).mono ?_
  rintro e w' ⟨rfl, rfl⟩
  go_wp2_with fail
  refine (H2.out _).mono ?_
  rintro e w1 ⟨rfl, hb1⟩
  have HB1 := Lib.hid (HB.out.trans (hb1.mono HB.out.size))
  clear hb1
  go_wp2_with fail
  refine (H3.out _ _ rfl).mono ?_
  rintro e w2 ⟨rfl, hb2⟩
  have HB2 := Lib.hid (HB1.out.trans (hb2.mono HB1.out.size))
  clear hb2
  go_wp2_with fail
  refine (H4.out _).mono ?_
  rintro e w' ⟨rfl, rfl⟩
  go_wp2
  go_ret
  exact ⟨rfl, HB2.out⟩

/-- May an address be given to somebody new? -/
def mayV (a b c : Int) (m : LV) (s now entry : Int) : Bool := decide (ServesI s) && (m.bind == ownV a || (s == 3 && m.bind != 5 && ovrB m b c now entry))

set_option maxRecDepth 100000 in
set_option maxHeartbeats 1000000 in
theorem may_any (a b c s now entry : Int) (m : LV) (w : World) : Calls Try.prog 14 #[r3v a b c, m.v, .int .i64 s, .int .i64 now, .int .i64 entry] w fun e w' => e = .returned (.bool (mayV a b c m s now entry)) ∧ Below w.heap.size w w' := by
  have H1 := Lib.hid (fun V => serves_any s V)
  have H3 := Lib.hid (fun V => over_b a b c now entry m V)
  unfold mayV
  generalize decide (ServesI s) = x at *
  generalize ovrB m b c now entry = z at *
  obtain ⟨w0, hw0⟩ : ∃ w0, w0 = (w.alloc (r3box 25 a b c)).alloc (lbox m) := ⟨_, rfl⟩
  have HR : Hid (R3 25 w0 w.heap.size a b c) := Lib.hid (by rw [hw0]; exact (R3.new w _ a b c).alloc _)
  have HL : Hid (LBox w0 (w.heap.size + 1) m) := Lib.hid (by rw [hw0]; have h := LBox.new (w.alloc (r3box 25 a b c)) m; rw [show (w.alloc (r3box 25 a b c)).heap.size = w.heap.size + 1 by simp] at h; exact h)
  have HB : Hid (Below w.heap.size w w0) := Lib.hid (by rw [hw0]; exact ((Below.refl _ _).alloc (Nat.le_refl _) _).alloc (by simp) _)
  have HW0 := Lib.hid hw0
  clear hw0
  have C2 := Lib.hid (qb (fun V => own_any a b c V) w0)
  generalize ownV a = k at *
  cases x
  · go_enter Try.func14, Try.ntmps14
    go_wp2_with fail
    rw [← HW0.out]
    refine (H1.out _).mono ?_
    rintro e w' ⟨rfl, rfl⟩
    go_wp2
    go_ret
    exact ⟨rfl, HB.out⟩
  · obtain ⟨c0, c1, c2⟩ := HR.out.allR
    obtain ⟨l0, l1, l2, l3, l4, l5, l6, l7⟩ := HL.out.allR
    go_enter Try.func14, Try.ntmps14
    go_wp2_with fail
    rw [← HW0.out]
    refine (H1.out _).mono ?_
    rintro e w' ⟨rfl, rfl⟩
    go_upto_region 3 with fail
    refine wp_region_quiet_below (by kernel_rfl) (by kernel_rfl) ?_
    repeat (go_big_quiet_step (with_reducible exact C2.out _ _))
    refine wpQuiet_nil ?_
    intro _ hw'
    obtain ⟨⟨dq, osq⟩, hw''⟩ := hw'
    subst hw''
    have HB1 := Lib.hid (HB.out.trans ((below_regrown w0 dq osq).mono HB.out.size))
    have HR1 := Lib.hid (HR.out.later (below_regrown w0 dq osq))
    have HL1 := Lib.hid (HL.out.later (below_regrown w0 dq osq))
    clear c0 c1 c2 l0 l1 l2 l3 l4 l5 l6 l7 C2
    generalize grow (redrawn w0 dq) osq = w1 at *
    obtain ⟨c0, c1, c2⟩ := HR1.out.all
    obtain ⟨l0, l1, l2, l3, l4, l5, l6, l7⟩ := HL1.out.all
    cases hk : m.bind == k
    · cases h3 : s == 3
      · go_wp2
        go_ret
        refine ⟨?_, HB1.out⟩
        rw [hk, h3]
        rfl
      · by_cases h5 : m.bind = 5
        · go_wp2
          go_ret
          refine ⟨?_, HB1.out⟩
          rw [hk, h3, h5]
          rfl
        · go_wp2_with fail
          refine (H3.out _).mono ?_
          rintro e w2 ⟨rfl, hb2⟩
          have HB2 := Lib.hid (HB1.out.trans (hb2.mono HB1.out.size))
          clear hb2
          go_wp2
          go_ret
          refine ⟨?_, HB2.out⟩
          rw [hk, h3, show (m.bind != 5) = true by simpa using h5]
          rfl
    · go_wp2
      go_ret
      refine ⟨?_, HB1.out⟩
      rw [hk]
      rfl
end Go.Proofs.Ytcgfldfjadmpdaa
