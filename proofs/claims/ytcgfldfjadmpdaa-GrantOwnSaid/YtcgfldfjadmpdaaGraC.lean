/- grant: the document's May. -/
import Derived.Test.YtcgfldfjadmpdaaGraB
namespace Go.Proofs.Ytcgfldfjadmpdaa
open Go.RowKit Go.Sort

set_option maxRecDepth 100000 in
set_option maxHeartbeats 1000000 in
theorem rmay_any (a b c s now entry : Int) (m : LV) (w : World) : Calls Try.prog 15 #[r3v a b c, m.v, .int .i64 s, .int .i64 now, .int .i64 entry] w fun e w' => e = .returned (.bool (mayV a b c m s now entry)) ∧ Below w.heap.size w w' := by
  have H1 := Lib.hid (fun V => rserves_any s V)
  have H2 := Lib.hid (fun V => radd_any (max b 0) (max c 0) V)
  have H3 := Lib.hid (fun V => rover_any m V)
  have H4 := Lib.hid (fun V => rpast_any now (max entry (overL m)) (aftV b c) V)
  rw [aftV_max] at H2
  unfold mayV ovrB
  generalize decide (ServesI s) = x at *
  generalize pastV now (max entry (overL m)) (aftV b c) = z at *
  generalize aftV b c = y at *
  generalize overL m = o at *
  obtain ⟨p, hp⟩ : ∃ p, p = max b 0 := ⟨_, rfl⟩
  obtain ⟨q, hq⟩ : ∃ q, q = max c 0 := ⟨_, rfl⟩
  obtain ⟨r, hr⟩ : ∃ r, r = max entry o := ⟨_, rfl⟩
  rw [← hp, ← hq] at H2
  rw [← hr] at H4
  have hp' : (if b < 0 then (0 : Int) else b) = p := by split <;> omega
  have hq' : (if c < 0 then (0 : Int) else c) = q := by split <;> omega
  have hr' : (if entry < o then o else entry) = r := by split <;> omega
  clear hp hq hr
  obtain ⟨w0, hw0⟩ : ∃ w0, w0 = (w.alloc (r3box 26 a b c)).alloc (lbox m) := ⟨_, rfl⟩
  have HR : Hid (R3 26 w0 w.heap.size a b c) := Lib.hid (by rw [hw0]; exact (R3.new w _ a b c).alloc _)
  have HL : Hid (LBox w0 (w.heap.size + 1) m) := Lib.hid (by rw [hw0]; have h := LBox.new (w.alloc (r3box 26 a b c)) m; rw [show (w.alloc (r3box 26 a b c)).heap.size = w.heap.size + 1 by simp] at h; exact h)
  have HB : Hid (Below w.heap.size w w0) := Lib.hid (by rw [hw0]; exact ((Below.refl _ _).alloc (Nat.le_refl _) _).alloc (by simp) _)
  have HW0 := Lib.hid hw0
  clear hw0
  have C2 := Lib.hid (qb (fun V => rown_any a b c V) w0)
  generalize ownV a = k at *
  cases x
  · go_enter Try.func15, Try.ntmps15
    go_wp2_with fail
    rw [← HW0.out]
    refine (H1.out _).mono ?_
    rintro e w' ⟨rfl, rfl⟩
    go_wp2
    go_ret
    exact ⟨rfl, HB.out⟩
  · obtain ⟨c0, c1, c2⟩ := HR.out.allR
    obtain ⟨l0, l1, l2, l3, l4, l5, l6, l7⟩ := HL.out.allR
    go_enter Try.func15, Try.ntmps15
    go_wp2_with fail
    rw [← HW0.out]
    refine (H1.out _).mono ?_
    rintro e w' ⟨rfl, rfl⟩
    go_upto_region 3 with fail
    refine wp_region_quiet_below (by kernel_rfl) (by kernel_rfl) ?_
    repeat (go_big_quiet_step (with_reducible exact C2.out _ _))
    refine wpQuiet_nil ?_
    intro _ hw'
    obtain ⟨⟨dq, osq⟩, hw''⟩ := hw'
    subst hw''
    have HB1 := Lib.hid (HB.out.trans ((below_regrown w0 dq osq).mono HB.out.size))
    have HR1 := Lib.hid (HR.out.later (below_regrown w0 dq osq))
    have HL1 := Lib.hid (HL.out.later (below_regrown w0 dq osq))
    clear c0 c1 c2 l0 l1 l2 l3 l4 l5 l6 l7 C2
    generalize grow (redrawn w0 dq) osq = w1 at *
    obtain ⟨c0, c1, c2⟩ := HR1.out.all
    obtain ⟨l0, l1, l2, l3, l4, l5, l6, l7⟩ := HL1.out.all
    cases hk : m.bind == k
    · go_wp2_with fail
      refine (H2.out _).mono ?_
      rintro e w' ⟨rfl, rfl⟩
      cases h3 : s == 3
      · go_wp2
        go_ret
        refine ⟨?_, HB1.out⟩
        rw [hk, h3]
        rfl
      · by_cases h5 : m.bind = 5
        · go_wp2
          go_ret
          refine ⟨?_, HB1.out⟩
          rw [hk, h3, h5]
          rfl
        · go_wp2_with fail
          refine (H3.out _).mono ?_
          rintro e w2 ⟨rfl, hb2⟩
          have HB2 := Lib.hid (HB1.out.trans (hb2.mono HB1.out.size))
          clear hb2
          go_wp2_with fail
          refine (H4.out _).mono ?_
          rintro e w' ⟨rfl, rfl⟩
          go_wp2
          go_ret
          refine ⟨?_, HB2.out⟩
          rw [hk, h3, show (m.bind != 5) = true by simpa using h5]
          rfl
    · go_wp2
      go_ret
      refine ⟨?_, HB1.out⟩
      rw [hk]
      rfl
end Go.Proofs.Ytcgfldfjadmpdaa
